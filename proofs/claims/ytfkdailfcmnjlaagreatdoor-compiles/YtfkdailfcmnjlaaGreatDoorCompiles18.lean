/-
  A part.
-/
import Derived.Test.YtfkdailfcmnjlaaGreatDoorCompiles17
set_option linter.all false
set_option maxHeartbeats 40000000
set_option maxRecDepth 1000000
namespace Go.Proofs.YtfkdailfcmnjlaaGreatDoor
section
open Go Go.RowKit Tryz
attribute [local go_sem ↓] Go.wp_at_zero Go.wp_at_succ
variable {bs : Nat}
variable {L G ix}
theorem Aw (F) (js:List Nat) (k) (z:k<js.length):fH F (js.drop k)=match F (js.getD k 0) with|some p=>some p|none=>fH F (js.drop (k+1)):=by
 rw[fK z 0,fH]
 cases F (js.getD k 0)<;>rfl
theorem Ax (hG:G.length<=2000) (hix:∀s,0<=du G s->ix s=du G s) (f):∀{lo i b cap a w},dN f L lo i->dK bs L (N0 ix) w i b->pO w a G->
 Calls prog 110 #[Pq b,.slice a G.length cap] w (Au bs L ix w i b (km (λt=>decide (du G (cG t)<0)) f L i)):=by
 induction f with
 |zero=>intro lo i b cap a w h;exact h.elim
 |succ f ih=>
  intro lo i b cap a w hT hC hS
  by_cases ho:(L.getD i cD).tok.k=111
  ·exact Av hG hix f hT hC hS ho
  ·obtain⟨u,n,bl,hi,hlo,hn,hb,hu,hs⟩:=hC.inv
   obtain⟨⟨c0,c1,c2,c3,c4,c5⟩,cf⟩:=kz hb;have hr:km (λt=>decide (du G (cG t)<0)) (f+1) L i=fH (km (λt=>decide (du G (cG t)<0)) f L) (L.getD i cD).subs:=by
    rw[km,RH ho]
   rw[hr];have hk2:cz (L.getD i cD).tok≠2:=λe=>ho (jK.1 e)
   have hk3:((cz (L.getD i cD).tok:Int)==(2:Int))=false:=by
    have: ¬((cz (L.getD i cD).tok:Int)=2):=by omega
    simpa using this
   obtain⟨au,eu,ha⟩:=hu.slice;have hn3:(L.getD i cD).subs.length<=3:=by
    rcases hT.2.1 with⟨_,h1⟩|⟨_,h1⟩|⟨_,h1⟩|⟨m,_,_,h1⟩
    ·rw[h1];simp
    all_goals omega
   have hsub:=iH _ hT.2.2;have hend:∀wr,RF (SX bs ix) w wr->(∀j,j<(L.getD i cD).subs.length->dK bs L (N1 ix) wr ((L.getD i cD).subs.getD j 0) (bl j))->dK bs L (N1 ix) wr i b:=by
    intro wr hf hall;have hu':jr wr u (L.getD i cD).subs.length bl:=by
     rcases hu with hu|⟨h0,g,h1,h2⟩
     ·exact .inl hu
     ·exact .inr ⟨h0,g,h1,by rw[hf.other h2 (by decide)];exact h2⟩
    have hbw:wr.heap[b]?=w.heap[b]?:=by
     rcases hf.block b (cq hb) with e|⟨t,u',m,m',e1,e2,e3⟩
     ·exact e
     ·rw[hb] at e1
      have:=(EP (SK e1)).1;exact absurd (this.trans e3.2.1) hk2
    refine .mk i b u n bl hi hlo ?_ (hbw.trans hb) hu' hall
    unfold N1;rw[RH hk2]
    rcases hn with hn|hn
    ·exact hn
    ·exact absurd hn.1 hk2
   subst eu;have HEND:=Hi hend;have HS:=Hi hs;have HT:=Hi hsub;have HA:=Hi ha;have HSt:=Hi hS;generalize cz (L.getD i cD).tok=kd at*;generalize hjs:(L.getD i cD).subs=js at*;have HF:Hid (∀j,km (λt=>decide (du G (cG t)<0)) f L j=km (λt=>decide (du G (cG t)<0)) f L j):=λ_=>rfl
   generalize hFF:km (λt=>decide (du G (cG t)<0)) f L=FF at*
   have ho:Hid (fH FF js=fH FF (js.drop 0)):=rfl;generalize hoo:fH FF js=o at*;go_enter func110,ntmps110;go_wp2
   go_loopw [41] (λkv wr=> ∃k,k<=js.length/\kv= Iq k/\Hid (o=fH FF (js.drop k))/\Hid (∀j,j<k->dK bs L (N1 ix) wr (js.getD j 0) (bl j))/\RF (SX bs ix) w wr) (λkv _=>js.length - (intOf kv).toNat)
   case atStart=>exact⟨0,R0 _,rfl,ho,λj hj=>by omega,RF.refl _ _⟩
   case round=>
    obtain⟨k,hk,rfl,HO,HD,hf⟩:=hrel
    by_cases hlt:k<js.length
    ·obtain⟨g,rfl,hg⟩:=HA.out k hlt
     have hg':=(hf.other hg (by decide)).trans hg
     have hcell:=mI hg' k hlt;have hst:=Hi (Aw FF js k hlt);obtain⟨lo',hT'⟩:=HT.out (js.getD k 0) (by rw[RG,RI hlt];exact R4 hlt)
     have HI:=ih (cap:=cap) hT' ((HS.out k hlt).rf hf OR) (pO.rf HSt.out hf);go_wp2_with fail;apply HI.mono;rintro e w1 (⟨p,hp,rfl,hf1⟩|⟨hp,p,rfl,hf1,hC1⟩)
     ·have HP:Hid _:=hp
      go_wp2;refine RU (v:= .tuple #[Iq p,.bool false]) (by simp[results,results110,go_sem]) rfl ?_
      refine .inl ⟨p,?_,rfl,(hf.mono λ_ _ _ _ h=>h.1).trans hf1⟩
      rw[HO.out,hst.out,HP.out]
     ·have HP:Hid _:=hp
      have HC1:=Hi hC1;go_wp2
      go_roundw
      case rel=>
       refine⟨k+1,by omega,by simp,?_,?_,hf.trans hf1⟩
       ·show _=_
        rw[HO.out,hst.out,HP.out]
       ·intro j hj
        by_cases e:j=k
        ·subst e;exact HC1.out
        ·exact(HD.out j (by omega)).rf hf1 Gs
      case measure=>simp[intOf];omega
    ·have hke:k=js.length:=by omega
     subst hke;have hno:Hid (o=none):=by
      have:=HO.out;rw[R8 (RL _)] at this;exact this
     have HA:Hid (Au bs L ix w i b o (.returned (.tuple #[Iq 0,.bool true])) wr):= .inr ⟨hno.out,0,rfl,hf,HEND.out wr hf HD.out⟩;go_wp2;refine RU (v:= .tuple #[Iq 0,.bool true]) (by simp[results,results110,go_sem]) rfl ?_
     exact HA.out
end
section
open Go Go.RowKit Tryz
attribute [local go_sem ↓] Go.wp_at_zero Go.wp_at_succ
variable {bs : Nat}
variable {w base v n xs k L N w' i b e size ys}
theorem LD:(prog.info? 9).map (λi=>(i.zero,i.size,i.bytes))=some (some (.string ⟨#[]⟩),1,16):=by kernel_rfl
theorem RF.grown {SS:Nat->Nat->LB->Int->Prop} {w wr w' row} (h:RF SS w wr) (z:wr.grownBy w' row) (E:∀k,row=some k->w.heap.size<=k):RF SS w w':=
 ⟨z.os.trans h.os,z.tape.trans h.tape,z.output.trans h.output,SF h.size z.size,λk D=>by
  have e:=z.block k (SL D h.size) (λe=>by have:=E k e.symm;omega)
  rcases h.block k D with f|⟨t,u,n,G,I,J,O⟩
  ·exact .inl (e.trans f)
  exact .inr ⟨t,u,n,G,I,e.trans J,O⟩⟩
theorem RF.alloc {SS:Nat->Nat->LB->Int->Prop} {w wr} (h:RF SS w wr) (o):RF SS w (wr.alloc o):=
 h.trans (RF.of_below ((RP _ _).alloc (RL _) o))
theorem NH {l:List LB} (h:w.ownsRow base 9 1 v l.length (l.map S)):∃a cap,v= .slice a l.length cap/\pO w a l:=by
 obtain⟨R,h⟩:=h;rcases h with⟨rfl,I⟩|⟨g,cap,z,rfl,U,E,V,Y,h3,J⟩
 ·exact⟨none,0,by rw[I],λk G=>by omega⟩
 refine⟨_,cap,rfl,λk G=>⟨g,rfl,⟨z,E⟩,?_⟩⟩
 rw[RM w g k _ _ _ E];have O:z[k]?=(z.toList.take (l.length*1))[k]?:=by
  rw[Tm (by omega)];simp
 rw[O,J];simp[G,RG]
theorem zn {w:World} (h:w.ownsRow base 9 1 v n xs) (z:v.ownBlock=some k):base<=k/\ ∃cs,w.heap[k]?=some (.cells cs 9 (0,0)):=by
 rcases h.2 with⟨rfl,_⟩|⟨g,cap,D,rfl,E,G,_⟩
 ·simp[Value.ownBlock] at z
 simp[Value.ownBlock] at z;subst z;exact⟨E,D,G⟩
theorem dK.grownStr (h:dK bs L N w i b) (hr:w.ownsRow base 9 1 v n xs) (hg:w.grownBy w' v.ownBlock):dK bs L N w' i b:=
 h.keep λk cs ty hk ht=>hg.block k (cq hk) λe=>by
  obtain⟨_,cs',hc⟩:=zn hr e.symm;rw[hk] at hc;simp only[R6,Ty] at hc;rw[hc.2.1] at ht;exact absurd ht (by decide)
theorem oH {SS:Nat->Nat->LB->Int->Prop} (h:w.ownsRow base e size v n xs) (E:e≠229) (G:RF SS w w'):w'.ownsRow base e size v n xs:=by
 obtain⟨I,z⟩:=h;refine⟨I,?_⟩;rcases z with z|⟨g,cap,D,a,b,c,d⟩
 ·exact .inl z
 exact .inr ⟨g,cap,D,a,b,by rw[G.other c E];exact c,d⟩
theorem dB.rf {L N} {SS:Nat->Nat->LB->Int->Prop} {w w'} (hf:RF SS w w') (hN:∀q t n,SS q (cz t) (cG t) n->N t n) {xs ys} (h:dB (dK bs L N w) xs ys):dB (dK bs L N w') xs ys:=
 h.mono λ_ _ h=>h.rf hf hN
theorem qu {α:Type} {l:List α} (h:k<l.length) (d:α):l.take (k+1)=l.take k++[l.getD k d]:=by
 rw[Ta h,RG,RI h];rfl
def ER (z:Nat) (L:List Pt) (ix:List UInt8->Int) (xs:List dk) (ys:List (Tok×Tok×Nat×Int)) (w:World) (e:Ending) (w':World):Prop:=
 (∃p,dq xs L xs 0 0=some p/\e= .returned (.tuple #[Iq p,.bool false])/\RF (SB z) w w')\/
 (dq xs L xs 0 0=none/\e= .returned (.tuple #[Iq 0,.bool true])/\RF (SX z ix) w w'/\dB (dK z L (N1 ix) w') xs ys)
theorem Co (hL:iq L) (hrow:w.ownsRow base 163 10 v ys.length (dE ys)) (hy:ys.length<=1001)
 (hit:dB (dK bs L (N0 (du (fN xs))) w) xs ys) (htr:ek L xs 0):
 Calls prog 58 #[v] w (ER bs L (du (fN xs)) xs ys w):=by
 obtain⟨a,cap,rfl,hcell⟩:=mg hrow;obtain⟨i0,hi,hz0,hz1,hz2⟩:=Tz LD;have hlen:=Hi hit.len;have HC:=Hi hcell;have HT:=Hi hit;have HTR:=Hi htr;have HL:=Hi hL;clear hrow hcell hit htr hL;go_enter func58,ntmps58;go_wp2;go_loopw [4,11] (λgv kv wr=> ∃k fr,k<=ys.length/\kv= Iq k/\Hid (dq xs L xs 0 0=dq xs L (xs.drop k) fr k)/\Hid (ek L (xs.drop k) fr)/\Hid (dB (dK bs L (N0 (du (fN xs))) w) (xs.drop k) (ys.drop k))/\Hid (dB (dK bs L (N1 (du (fN xs))) wr) (xs.take k) (ys.take k))/\wr.ownsRow w.heap.size 9 1 gv (fN (xs.take k)).length ((fN (xs.take k)).map S)/\RF (SX bs (du (fN xs))) w wr) (λ_ kv _=>ys.length - (intOf kv).toNat)
 case atStart=>exact⟨0,0,R0 _,rfl,rfl,HTR.out,HT.out,trivial,SC _ _ _ _,RF.refl _ _⟩
 case round=>
  obtain⟨k,fr,hk,rfl,HM,HTR2,HIT2,HDN,hown,hf⟩:=hrel;by_cases hlt:k<ys.length
  ·have hltx:k<xs.length:=by rw[<-hlen.out];exact hlt
   have hgl:=zT (xs.take k);have hgl2:(fN (xs.take k)).length<=k:=SF hgl (by simp;omega)
   have ht2:=HTR2.out;have hi2:=HIT2.out;rw[fK hltx dQ] at ht2 hi2;rw[fK hltx dQ] at HM;rw[fK hlt (eN,eN,0,0)] at hi2;obtain⟨g,rfl,⟨gcs,hgc⟩,hcells⟩:=HC.out k hlt;have HTX:=Hi (qu hltx dQ);have HTY:=Hi (qu hlt (eN,eN,0,0));generalize xs.getD k dQ=x at*;generalize ys.getD k (eN,eN,0,0)=y at*;obtain⟨⟨hCd,hO⟩,hi2⟩:=hi2;obtain⟨hTr,hpt,ht2⟩:=ht2;obtain⟨t0,u0,b,wh⟩:=y;simp only[] at hCd hO;have hgw:=hf.other hgc (by decide)
   have hct:∀j,j<10->wr.cell? ⟨g,k*10+j,none⟩=(ff (t0,u0,b,wh))[j]?:=λj hj=>by
    rw[R1 (w:=w) (a:=⟨g,k*10+j,none⟩) hgw];exact hcells j hj
   have c0:=hct 0 (by omega)
   have c1:=hct 1 (by omega)
   have c2:=hct 2 (by omega)
   have c3:=hct 3 (by omega)
   have c4:=hct 4 (by omega)
   have c5:=hct 5 (by omega)
   have c6:=hct 6 (by omega)
   have c7:=hct 7 (by omega)
   have c8:=hct 8 (by omega)
   have c9:=hct 9 (by omega)
   simp[ff] at c0 c1 c2 c3 c4 c5 c6 c7 c8 c9;have hTF:=hTr.fit;have HST:=Hi (vT (xs:=xs) HL.out (r:=xs.drop (k+1)) (i:=k) hTr hpt);obtain⟨ag,capg,rfl,hSt⟩:=NH hown;have hf0:=hf.alloc (.cells #[Iq (cz t0),Iq t0.pl,Iq (cY t0),S (cG t0),Iq (cz u0),Iq u0.pl,Iq (cY u0),S (cG u0),Iq wh,Pq b] 163 (0,0));have hb0:RF (SX bs (du (fN xs))) wr (wr.alloc (.cells #[Iq (cz t0),Iq t0.pl,Iq (cY t0),S (cG t0),Iq (cz u0),Iq u0.pl,Iq (cY u0),S (cG u0),Iq wh,Pq b] 163 (0,0))):=(RF.refl _ _).alloc _;have hG2:(fN (xs.take k)).length<=2000:=by omega
   have W2:=Ax (L:=L) (ix:=du (fN xs)) (cap:=capg) hG2 (λs h=>vU k h) (x.top+1) hTF (hCd.rf hf0 OR) (pO.rf hSt hb0)
   rw[DU (bad':=nI xs k) (λq hq ho=>by
    have e1:cG (L.getD q cD).tok=(L.getD q cD).tok.text:=by unfold cG;rw[RK ho]
    have e2:=tM _ (HL.out.own q hq ho) xs k;unfold nI;rw[e1,Ts];simpa using e2) (x.top+1) hTF] at W2
   have W1:=vm (fN (xs.take k)) (cG u0) ag capg _ hG2 (pO.rf hSt hb0);have hown0:=oH hown (by decide) hb0
   have hit0:Hid (dB (dK bs L (N1 (du (fN xs))) (wr.alloc (.cells #[Iq (cz t0),Iq t0.pl,Iq (cY t0),S (cG t0),Iq (cz u0),Iq u0.pl,Iq (cY u0),S (cG u0),Iq wh,Pq b] 163 (0,0)))) (xs.take k) (ys.take k)):=HDN.out.rf hb0 Gs;have hz0':(wr.alloc (.cells #[Iq (cz t0),Iq t0.pl,Iq (cY t0),S (cG t0),Iq (cz u0),Iq u0.pl,Iq (cY u0),S (cG u0),Iq wh,Pq b] 163 (0,0))).heap[wr.heap.size]?=_:=RO wr _;have HTR3:=Hi ht2;have HIT3:=Hi hi2;have HO:Hid (Ar x t0 u0):=hO;have hFw:=Hi hf0;have hOwn:=Hi hown0;unfold Ar at hO;clear hTr hTF hCd ht2 hi2 hct hcells hSt hf hown HDN hf0 hb0 hgw hgc HTR2 HIT2 hown0 HTR HT;generalize hkd0:cz t0=kd at*;generalize hu1:u0.pl=m5 at*;generalize hu2:cG u0=s7 at*;generalize t0.pl=p0 at*;generalize cY t0=m2 at*;generalize cG t0=s3 at*;generalize cz u0=m4 at*;generalize cY u0=m6 at*;rcases hO with hO|hO
   ·have hkd:kd=11:=hO.2.1;subst hkd;have hne:=hO.1;have e5:=hO.2.2.2.2.1;have e7:=hO.2.2.2.2.2.1;have HNE:=Hi hne;have HE5:=Hi e5;have HE7:=Hi e7;clear hO hne e5 e7 hkd0 hu1 hu2;by_cases hdup:0<=du (fN (xs.take k)) s7
    ·rw[Sr hdup] at W1;have HA:Hid (ER bs L (du (fN xs)) xs ys w (.returned (.tuple #[Iq m5,.bool false])) (wr.alloc (.cells #[Iq 11,Iq p0,Iq m2,S s3,Iq m4,Iq m5,Iq m6,S s7,Iq wh,Pq b] 163 (0,0)))):=by
      refine .inl ⟨m5,?_,rfl,hFw.out.mono λ_ _ _ _ h=>h.1⟩
      rw[HM.out,HST.out,RK ⟨HNE.out,by rw[<-HE7.out];exact hdup⟩,HE5.out]
     obtain⟨⟨z0,z1,z2,z3,z4,z5,z6,z7,z8,z9⟩,zf⟩:=dY hz0';clear W2 hz0' hdup;go_wp2_with fail;apply W1.mono;rintro e w' ⟨rfl,rfl⟩;clear W1;go_wp2;refine RU (v:= .tuple #[Iq m5,.bool false]) (by simp[results,results58,go_sem]) rfl ?_
     exact HA.out
    rw[Sc hdup] at W1;have hst2:Hid (dq xs L xs 0 0=(km (nI xs k) (x.top+1) L x.top).or (dq xs L (xs.drop (k+1)) x.parts (k+1))):=by
     show _=_;rw[HM.out,HST.out,RH (λe=>hdup (by rw[HE7.out];exact e.2))]
    obtain⟨⟨z0,z1,z2,z3,z4,z5,z6,z7,z8,z9⟩,zf⟩:=dY hz0';have HZ:=Hi hz0';clear hz0' hdup;generalize km (nI xs k) (x.top+1) L x.top=ro at*;go_wp2_with fail;apply W1.mono;rintro e w' ⟨rfl,rfl⟩;clear W1;go_wp2_with fail;apply W2.mono;rintro e w1 (⟨q,hq,rfl,hf1⟩|⟨hq,q,rfl,hf1,hC1⟩)
    ·have HQ:Hid _:=hq;clear W2 hq z0 z1 z2 z3 z4 z5 z6 z7 z8 z9 zf;go_wp2;refine RU (v:= .tuple #[Iq q,.bool false]) (by simp[results,results58,go_sem]) rfl ?_
     refine .inl ⟨q,?_,rfl,(hFw.out.mono λ_ _ _ _ h=>h.1).trans hf1⟩
     rw[hst2.out,HQ.out];rfl
    have HQ:Hid _:=hq;have HC1:=Hi hC1;have hz1':=(hf1.other HZ.out (by decide)).trans HZ.out
    have hown1:=oH hOwn.out (by decide) hf1
    have hF1:=Hi (hFw.out.trans hf1);have hD1:=Hi (hit0.out.rf hf1 Gs);have hs1:=hf1.size;have hs0:=hFw.out.size;clear W2 hq hC1 z0 z1 z2 z3 z4 z5 z6 z7 z8 z9 zf HZ hOwn hFw hit0 hf1;obtain⟨⟨z0,z1,z2,z3,z4,z5,z6,z7,z8,z9⟩,zf⟩:=dY hz1';clear hz1';simp only[RW] at hs0 hs1;generalize wr.heap.size=bi at*;generalize hGl:fN (xs.take k)=G at*;go_wp2_with (
     at_builtin;go_must (refine wpList_append_lies _ (by rfl) _ _ 131 (by rfl) w.heap.size 9 i0 (.string ⟨#[]⟩) 1 16 underlying131 hi hz0 hz1 hz2 (by rfl) (by decide) _ _ _ (by rfl) (hown1.alloc _) ⟨w1.heap.size,0,none⟩ 1 1 [S s7] (by rfl) (by rfl) (World.news_of_block (RO w1 _)) (λx hx=>by simp at hx;rcases hx with rfl;rfl) (by decide) (by unfold maxLen;omega) (by omega) (by simp;omega) _ rfl ?_)
     intro g3 cap3 w3 hown3 hgrow3 hat hlt3)
    have hrowb:∀q,(Value.slice ag G.length capg).ownBlock=some q->w.heap.size<=q:=λq hq=>(zn hown1 hq).1
    refine⟨⟨k+1,x.parts,by omega,by simp,?_,HTR3.out,HIT3.out,?_,?_,(hF1.out.alloc _).grown hgrow3 hrowb⟩,by simp[intOf];omega⟩
    ·show _=_;rw[hst2.out,HQ.out];rfl
    ·show dB _ _ _;rw[HTX.out,HTY.out];exact dB.snoc ((HC1.out.grow ((RP _ _).alloc (RL _) _)).grownStr (hown1.alloc _) hgrow3) HO.out (hD1.out.mono λi b h=>(h.grow ((RP _ _).alloc (RL _) _)).grownStr (hown1.alloc _) hgrow3)
    have e:fN (xs.take (k+1))=G++[s7]:=by rw[HTX.out,Bs,RH HNE.out,hGl,HE7.out]
    rw[e];simpa using hown3
   have hkd:((kd:Int)==(11:Int))=false:=by
    have h1:=hO.2.1;have: ¬((kd:Int)=11):=by split at h1<;>omega
    simpa using this
   have HNE:=Hi hO.1;clear hO hkd0 hu1 hu2 W1;have hst2:Hid (dq xs L xs 0 0=(km (nI xs k) (x.top+1) L x.top).or (dq xs L (xs.drop (k+1)) x.parts (k+1))):=by
    show _=_;rw[HM.out,HST.out,RH (λe=>e.1 HNE.out)]
   obtain⟨⟨z0,z1,z2,z3,z4,z5,z6,z7,z8,z9⟩,zf⟩:=dY hz0';have HZ:=Hi hz0';clear hz0';generalize km (nI xs k) (x.top+1) L x.top=ro at*;go_wp2_with fail;apply W2.mono;rintro e w1 (⟨q,hq,rfl,hf1⟩|⟨hq,q,rfl,hf1,hC1⟩)
   ·have HQ:Hid _:=hq;clear W2 hq z0 z1 z2 z3 z4 z5 z6 z7 z8 z9 zf;go_wp2;refine RU (v:= .tuple #[Iq q,.bool false]) (by simp[results,results58,go_sem]) rfl ?_
    refine .inl ⟨q,?_,rfl,(hFw.out.mono λ_ _ _ _ h=>h.1).trans hf1⟩
    rw[hst2.out,HQ.out];rfl
   have HQ:Hid _:=hq;have HC1:=Hi hC1;have hz1':=(hf1.other HZ.out (by decide)).trans HZ.out
   have hown1:=oH hOwn.out (by decide) hf1
   have hF1:=Hi (hFw.out.trans hf1);have hD1:=Hi (hit0.out.rf hf1 Gs);clear W2 hq hC1 z0 z1 z2 z3 z4 z5 z6 z7 z8 z9 zf HZ hOwn hFw hit0 hf1;obtain⟨⟨z0,z1,z2,z3,z4,z5,z6,z7,z8,z9⟩,zf⟩:=dY hz1';clear hz1';generalize wr.heap.size=bi at*;go_wp2;refine⟨⟨k+1,x.parts,by omega,by simp,?_,HTR3.out,HIT3.out,?_,?_,hF1.out⟩,by simp[intOf];omega⟩
   ·show _=_;rw[hst2.out,HQ.out];rfl
   ·show dB _ _ _;rw[HTX.out,HTY.out];exact dB.snoc HC1.out HO.out hD1.out
   have e:fN (xs.take (k+1))=fN (xs.take k):=by rw[HTX.out,Bs,RK HNE.out]
   rw[e];exact hown1
  have hke:k=ys.length:=by omega
  subst hke;have hm:dq xs L xs 0 0=none:=by
   have:=HM.out;rw[R8 (by rw[hlen.out];exact RL _)] at this
   exact this
  have hd:=HDN.out;rw[Ti,Sz (by rw[hlen.out];exact RL _)] at hd
  have HA:Hid (ER bs L (du (fN xs)) xs ys w (.returned (.tuple #[Iq 0,.bool true])) wr):= .inr ⟨hm,rfl,hf,hd⟩;clear hm hd HDN;go_wp2;refine RU (v:= .tuple #[Iq 0,.bool true]) (by simp[results,results58,go_sem]) rfl ?_
  exact HA.out
end
section
open Go Go.RowKit Tryz
attribute [local go_sem ↓] Go.wp_at_zero Go.wp_at_succ
variable {bs : Nat}
variable {a l p L xs its z f lo i b w}
def ES (w:World) (a:Option Addr) (l:List Nat):Prop:= ∀j,j<l.length-> ∃g,a=some ⟨g,0,none⟩/\w.cell? ⟨g,j,none⟩=some (Iq (l.getD j 0))
theorem ES.grow {w w':World} (h:ES w a l) (D:Below w.heap.size w w'):ES w' a l:=λj E=>by
 obtain⟨g,G,z⟩:=h j E;exact⟨g,G,by rw[D.cell (p:=⟨g,j,none⟩) (RN w _ z)];exact z⟩
theorem Cp (c):eF c<=3:=by unfold eF;split;omega;split;omega;split<;>omega
theorem ET (h:qV p) (G:p.subs≠[]):(cz p.tok=6\/cz p.tok=7\/cz p.tok=9\/cz p.tok=10\/cz p.tok=17\/cz p.tok=18\/cz p.tok=19\/cz p.tok=8\/cz p.tok=14)/\(cz p.tok=14->p.subs.length=3):=by
 rcases h with⟨_,h⟩|⟨h,E⟩|⟨h,E⟩|⟨n,_,h,E⟩
 ·exact absurd h G
 ·obtain⟨e,z⟩:=ji h
  rw[fe z,e];exact⟨by decide,λe=>absurd e (by decide)⟩
 ·obtain⟨e,z⟩:=ji h
  rw[fe z,e];exact⟨by decide,λ_=>E⟩
 ·obtain⟨e,z⟩:=oD h
  rw[fe z];have D:∀x∈([[43],[45],[60],[60,61],[61],[111,114],[97,110,100]]:List (List UInt8)),(kn x=6\/kn x=7\/kn x=9\/kn x=10\/kn x=17\/kn x=18\/kn x=19\/kn x=8\/kn x=14)/\kn x≠14:=by decide
  exact⟨(D _ e).1,λh=>absurd h (D _ e).2⟩
theorem EU {cap} (hT:dN (f+1) L lo i) (hC:dK bs L (N1 (du (fN xs))) w i b) (R:ES w a z) (aa:z.length<=1001) (I:(L.getD i cD).tok.k=111)
 (U:0<=du (fN xs) (L.getD i cD).tok.text) (J:(du (fN xs) (L.getD i cD).tok.text).toNat<z.length) (O:z.getD (du (fN xs) (L.getD i cD).tok.text).toNat 0=eF (dr xs its L (f+1) i)):
 Calls prog 111 #[Pq b,.slice a z.length cap] w λe w'=>e= .returned (Iq (eF (dr xs its L (f+1) i)))/\Below w.heap.size w w':=by
 obtain⟨u,n,bl,hi,ab,E,V,hu,hs⟩:=hC.inv;obtain⟨⟨c0,c1,c2,c3,c4,c5⟩,cf⟩:=kz V;have G:=jK.2 I;rw[G] at c0;have Y:n=du (fN xs) (L.getD i cD).tok.text:=by
  unfold N1 at E;rw[RK G] at E
  have e1:cG (L.getD i cD).tok=(L.getD i cD).tok.text:=by unfold cG;rw[RK I]
  rw[e1] at E;exact E
 rw[<-Y] at U J O;obtain⟨g,rfl,D⟩:=R _ J;rw[O] at D;obtain⟨m,rfl⟩:∃m:Nat,n=m:=⟨n.toNat,by omega⟩
 have Z:(m:Int).toNat=m:=by omega
 rw[Z] at J D;clear R hT V hu hs E Y O U G I Z;generalize eF (dr xs its L (f+1) i)=r at*;go_enter func111,ntmps111;go_wp2;go_ret;exact⟨rfl,RP _ _⟩
end
variable {F ts i L r xs fr}
theorem Po (f):∀z ts i L x r,P f z ts i L x=some r->r.ok=true->(z<=6\/z=10\/z=11\/z=13\/z=14)->r.L.length+i<=L.length+r.i:=by
 induction f with
 |zero=>intro z ts i L x r h;rw[P] at h;simp at h
 |succ f ih=>
  intro z ts i L x r h D ht;by_cases h6:z=6
  ·subst h6;by_cases R:eE (cr ts i) lT=true
   ·obtain⟨E,rb,rc,I,U,V,aa,ab,Y⟩:=mq h R;rw[aa] at D;obtain⟨J,O,rfl⟩:=Y D;have ka:=ih 6 ts (i+1) L 0 E I J (by omega)
    unfold Nx at U V;have ac:eE (cr ts E.i) iX=true:=by
     cases e:eE (cr ts E.i) iX with
     |true=>rfl
     |false=>rw[RH (by simp[e])] at U;rw[U.1] at O;simp at O
    have ad:eE (cr ts rb.i) iY=true:=by
     cases e:eE (cr ts rb.i) iY with
     |true=>rfl
     |false=>rw[RH (by simp[e])] at V;rw[V.1] at D;simp at D
    rw[RK ⟨J,ac⟩] at U;rw[RK ⟨O,ad⟩] at V;have kb:=ih 6 ts (E.i+1) E.L 0 rb U O (by omega)
    have kc:=ih 6 ts (rb.i+1) rb.L 0 rc V D (by omega)
    simp[lN];omega
   exact ih 0 ts i L 0 r (rF h R) D (by omega)
  by_cases h5:z=5
  ·subst h5;by_cases R:eE (cr ts i) [40]=true
   ·obtain⟨E,I,G⟩:=mr h R;rcases G with⟨J,ah,rfl⟩|⟨_,G,_⟩
    ·have ka:=ih 6 ts (i+1) L 0 E I J (by omega)
     simp;omega
    rw[G] at D;simp at D
   rcases kQ h R with⟨ha,rfl⟩|⟨_,rfl⟩
   ·simp;omega
   simp at D
  by_cases h2:z=2
  ·subst h2;by_cases R:eE (cr ts i) iw=true
   ·obtain⟨E,I,ae,ab,Y⟩:=oj h R;rw[ae] at D;have Y:=Y D;subst Y;have ka:=ih 2 ts (i+1) L 0 E I D (by omega)
    simp[lN];omega
   exact ih 3 ts i L 0 r (rE h R) D (by omega)
  by_cases ai:z<10
  ·have Z:di z:=by unfold di;omega
   obtain⟨E,I,G⟩:=jd Z h;rcases G with⟨J,G⟩|⟨no,rfl⟩
   ·unfold di at Z;have ka:=ih (z+1) ts i L 0 E I J (by omega)
    have kb:=ih (10+z) ts E.i E.L E.top r G D (by omega)
    omega
   rw[no] at D;simp at D
  obtain⟨n,rfl⟩:∃n,z=10+n:=⟨z - 10,by omega⟩
  have Z:di n:=by unfold di;omega
  have af:=Z;unfold di at af;cases hj:eX n (cr ts i) with
  |false=>
   have:=om Z h hj;subst this;simp
  |true=>
   obtain⟨rb,ag,G⟩:=nG Z h hj;rcases G with⟨no,rfl⟩|⟨O,G⟩
   ·rw[no] at D;simp at D
   have kb:=ih (n+1) ts (i+1) L 0 rb ag O (by omega)
   rcases G with⟨h3,rfl⟩|⟨h3,G⟩
   ·simp[lN];omega
   have kc:=ih (10+n) ts rb.i _ _ r G D (by omega)
   simp at kc;omega
theorem Iz (J:vS ts) (O:lr ts L i) (h:gI F ts i L=some r) (D:r.ok=true):
 i<r.i/\(∃new,r.L=L++new)/\jc r.L L.length r.it.top/\r.it.top+1=r.it.parts/\r.it.parts=r.L.length/\lr ts r.L r.i/\r.L.length+i<=L.length+r.i:=by
 have tail:∀j x,i<j->fB F ts j L x=some r->i<r.i/\(∃new,r.L=L++new)/\jc r.L L.length r.it.top/\r.it.top+1=r.it.parts/\r.it.parts=r.L.length/\lr ts r.L r.i/\r.L.length+i<=L.length+r.i:=by
  intro j x Z R;obtain⟨a,E,G⟩:=kU R;rcases G with⟨z,hw,rfl⟩|⟨_,I,_⟩
  ·have f1:=(vR F 6 ts j L 0 a E z (by omega)).1
   obtain⟨U,V,Y⟩:=O9 J F 6 j L 0 L.length a E z (by omega) (O.mono (by omega)) (λ_=>rfl) (by omega)
   have t4:=Po F 6 ts j L 0 a E z (by omega)
   exact⟨by simp;omega,Bq E z (by omega),V,U,rfl,Y.mono (by simp),by simp;omega⟩
  rw[I] at D;simp at D
 unfold gI at h;split at h
 ·split at h
  ·split at h
   ·exact tail _ _ (by omega) h
   simp[dJ] at h;subst h;simp at D
  simp[dJ] at h;subst h;simp at D
 split at h
 ·split at h
  ·exact tail _ _ (by omega) h
  simp[dJ] at h;subst h;simp at D
 simp[dJ] at h;subst h;simp at D
theorem LF (h:gI F ts i L=some r) (z:r.ok=true):r.i<=ts.length:=by
 have tail:∀j x,fB F ts j L x=some r->r.i<=ts.length:=by
  intro j x I;obtain⟨a,O,D⟩:=kU I;rcases D with⟨J,E,rfl⟩|⟨_,G,_⟩
  ·have:=(px λe=>by rw[e,tL] at E;simp at E).1
   simp only[];omega
  rw[G] at z;simp at z
 unfold gI at h;split at h
 ·split at h
  ·split at h
   ·exact tail _ _ h
   simp[dJ] at h;subst h;simp at z
  simp[dJ] at h;subst h;simp at z
 split at h
 ·split at h
  ·exact tail _ _ h
  simp[dJ] at h;subst h;simp at z
 simp[dJ] at h;subst h;simp at z
theorem ek.snoc (h:ek L xs fr) (new) (x) (z:jc (L++new) L.length x.top) (D:x.top+1=x.parts) (h3:x.parts=(L++new).length):ek (L++new) (xs++[x]) fr:=by
 induction xs generalizing fr with
 |nil=>
  have:fr=L.length:=h;subst this;exact⟨z,D,h3⟩
 |cons y r ih=>
  obtain⟨a,b,c⟩:=h;exact⟨a.more ⟨new,rfl⟩,b,ih c⟩
theorem pP (Z:vS ts) (g):∀i L xs R,ek L xs 0->lr ts L i->L.length<=i->i<=ts.length->dx F ts g i L xs=some R->R.ok=true->ek R.L R.xs 0/\lr ts R.L R.i/\R.L.length<=R.i/\R.i<=ts.length:=by
 induction g with
 |zero=>intro i L xs R _ _ _ _ h;rw[dx] at h;simp at h
 |succ g ih=>
  intro i L xs R E G hl hi h I;by_cases J:(cr ts i).k=101
  ·have:=kR h J;subst this;exact⟨E,G,hl,hi⟩
  rw[dx,RH J] at h;cases D:gI F ts i L with
  |none=>rw[D] at h;simp at h
  |some r=>
   rw[D] at h;simp only at h;by_cases z:r.ok=true
   ·rw[RK z] at h;obtain⟨k1,⟨new,e⟩,O,k3,U,V,k6⟩:=Iz Z G D z;have Y:=LF D z;rw[e] at O U V k6 h;exact ih r.i (L++new) (xs++[r.it]) R (E.snoc new r.it O k3 U) V (by omega) Y h I
   rw[RH z] at h;simp at h;subst h;simp at I
end Go.Proofs.YtfkdailfcmnjlaaGreatDoor
