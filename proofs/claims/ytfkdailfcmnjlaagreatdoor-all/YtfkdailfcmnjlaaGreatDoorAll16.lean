/-
  A part.
-/
import Derived.Test.YtfkdailfcmnjlaaGreatDoorAll15
import Derived.Deep.OwnRows
set_option linter.all false
set_option maxHeartbeats 40000000
set_option maxRecDepth 1000000
namespace Go.Proofs.YtfkdailfcmnjlaaGreatDoor
open Go Go.RowKit Tryz
section
attribute [local go_sem ↓] Go.wp_at_zero Go.wp_at_succ
variable {bs : Nat}
variable {L N i b n a w m}
theorem Bz {cap} (hC:dh bs L N w i b) (ho:(L.getD i cz).tok.k≠111) (hs:(L.getD i cz).subs=[]):
 Calls prog 111 #[Pq b,.slice a n cap] w λe w'=>e= .returned (Iq (qI (cy (L.getD i cz).tok)))/\Bl w w':=by
 obtain⟨u,n,bl,hi,hlo,hn,hb,hu,hs'⟩:=hC.inv;obtain⟨⟨c0,c1,c2,c3,c4,c5⟩,cf⟩:=gx hb;have hk3:((cy (L.getD i cz).tok)==2)=false:=by
  have: ¬((cy (L.getD i cz).tok)=2):=λe=>ho (iK.1 (by omega))
  simpa using this
 have hu0:u= .slice none 0 0:=by
  rw[hs] at hu;rcases hu with hu|hu
  ·exact hu.2
  simp at hu
 subst hu0;have HI:=wy (cy (L.getD i cz).tok) w (zy _);clear hb hu hs' hn hs ho;generalize qI (cy (L.getD i cz).tok)=r at*;generalize cy (L.getD i cz).tok=kd at*;go_enter func111,ntmps111;go_wp2_with fail;apply HI.mono;rintro e w' ⟨rfl,rfl⟩;clear HI;go_wp2;go_ret;exact⟨rfl,Qq _ _⟩
theorem yG:(prog.info? 220).map (λi=>(i.zero,i.size,i.bytes))=some (some (Iq 0),1,8):=by kernel_rfl
theorem BB {cap} (F) (hF:∀j,F j<=3) (hC:dh bs L N w i b) (ho:(L.getD i cz).tok.k≠111) (hsh:rG (L.getD i cz)) (hn0:(L.getD i cz).subs≠[])
 (hI:∀j∈(L.getD i cz).subs,∀bj w1,dh bs L N w1 j bj->Below w.heap.size w w1->Calls prog 111 #[Pq bj,.slice a m cap] w1 λe w'=>e= .returned (Iq (F j))/\Below w1.heap.size w1 w'):
 Calls prog 111 #[Pq b,.slice a m cap] w λe w'=>e= .returned (Iq (if((L.getD i cz).subs.map F).contains 0 then 0 else iW (cy (L.getD i cz).tok) ((L.getD i cz).subs.map F):Nat))/\Below w.heap.size w w':=by
 obtain⟨u,n,bl,hi,hlo,hn,hb,hu,hs⟩:=hC.inv;obtain⟨⟨c0,c1,c2,c3,c4,c5⟩,cf⟩:=gx hb;have hk3:((cy (L.getD i cz).tok:Int)==(2:Int))=false:=by
  have: ¬((cy (L.getD i cz).tok:Int)=2):=λe=>ho (iK.1 (by omega))
  simpa using this
 obtain⟨hkk,hk14⟩:=DJ hsh hn0;have hn3:(L.getD i cz).subs.length<=3:=by
  rcases hsh with⟨_,h1⟩|⟨_,h1⟩|⟨_,h1⟩|⟨m,_,_,h1⟩
  ·rw[h1];simp
  all_goals omega
 have hn1:0<(L.getD i cz).subs.length:=List.length_pos_iff.2 hn0;have hn2: ¬(L.getD i cz).subs.length=0:=by omega
 obtain⟨au,rfl,ha⟩:=hu.slice;obtain⟨g,rfl,hg⟩:=ha 0 hn1;have HI:=Hi hI;have HS:=Hi hs;have HG:=Hi hg;have HKK:=Hi hkk;have HK14:=Hi hk14;generalize cy (L.getD i cz).tok=kd at*;generalize (L.getD i cz).subs=js at*;have hmk:=run_make_row' (P:=prog) 219 220 (Iq 0) 8 underlying219 yG rfl .i64 .i64 js.length (by omega) (by omega)
 generalize hr:(if(js.map F).contains 0=true then 0 else iW kd (js.map F))=r at*;have HR:=Hi hr;have n4:=World.new_ne w _ c4;have hmade:∀j,j<js.length->(w.alloc (.cells (madeCells #[Iq 0] js.length) 220)).cell? ⟨w.heap.size,j,none⟩=some (Iq 0):=λj hj=>by
  rw[Qm _ _ j _ _ _ (Qp w _)];rw[<-S1,toList_madeCells_one];simp[hj]
 have hblk:∃cs,(w.alloc (.cells (madeCells #[Iq 0] js.length) 220)).heap[w.heap.size]?=some (.cells cs 220 (0,0)):=⟨_,Qp w _⟩;have hbw0:Below w.heap.size w (w.alloc (.cells (madeCells #[Iq 0] js.length) 220)):=(Qq _ _).alloc (Qn _) _;have c4':(w.alloc (.cells (madeCells #[Iq 0] js.length) 220)).cell? ⟨b,4,none⟩=_:=(hbw0.cell (p:=⟨b,4,none⟩) (Qk w _ c4)).trans c4;have HM:=Hi hmade;have HB:=Hi hblk;have HB0:=Hi hbw0;go_enter func111,ntmps111;go_wp2_with fail;generalize hgu:w.heap.size=gu at*;generalize w.alloc (.cells (madeCells #[Iq 0] js.length) 220)=wz at*;have HGU:=Hi hgu;go_loopw [44] (λkv wr=> ∃k,k<=js.length/\kv= Iq k/\Hid (∃cs,wr.heap[gu]?=some (.cells cs 220 (0,0)))/\Hid (∀j,j<js.length->wr.cell? ⟨gu,j,none⟩=some (Iq (if j<k then F (js.getD j 0) else 0:Nat)))/\Below gu w wr) (λkv _=>js.length - (intOf kv).toNat)
 case atStart=>exact⟨0,QA _,rfl,HB.out,λj hj=>by simpa using HM.out j hj,HB0.out⟩
 case round=>
  obtain⟨k,hk,rfl,HBK,HCL,hbw⟩:=hrel;by_cases hlt:k<js.length
  ·have hg':wr.heap[g]?=_:=(hbw.block g (by rw[<-HGU.out];exact be HG.out)).trans HG.out
   have hcell:=gy hg' k hlt;have hmem:js.getD k 0∈js:=by rw[Qi,Ql hlt];exact QD hlt
   have hbw':Below w.heap.size w wr:=by rw[HGU.out];exact hbw
   have W1:=HI.out (js.getD k 0) hmem (bl k) wr ((HS.out k hlt).grow hbw') hbw;have hF3:=hF (js.getD k 0);generalize hfx:F (js.getD k 0)=fx at W1 hF3;have HFX:=Hi hfx;go_wp2_with fail;apply W1.mono;rintro e w1 ⟨rfl,hb1⟩;obtain⟨cs,hcs⟩:=HBK.out;have hlg:=be hcs;have hcs1:w1.heap[gu]?=some (.cells cs 220 (0,0)):=(hb1.block _ hlg).trans hcs;have hcl1:∀j,j<js.length->w1.cell? ⟨gu,j,none⟩=some (Iq (if j<k then F (js.getD j 0) else 0:Nat)):=λj hj=>by
    rw[hb1.cell (p:=⟨gu,j,none⟩) hlg];exact HCL.out j hj
   have hck:=hcl1 k hlt;have hfz:∀j,w1.frozen? ⟨gu,j,none⟩=false:=λj=>by simp[World.frozen?,hcs1]
   have HCL1:=Hi hcl1;have HCS1:=Hi hcs1;have hbw1:Below gu w w1:=hbw.trans (hb1.mono (by rw[<-HGU.out];exact hbw.size))
   go_wp2_with fail;go_roundw
   case rel=>
    refine⟨k+1,by omega,by simp,⟨_,QB _ _ _ _ _ _ HCS1.out⟩,λj hj=>?_,?_⟩
    ·by_cases e:j=k
     ·subst e;rw[World.cell?_setCell_same' w1 ⟨gu,j,none⟩ _ (by rw[HCL1.out j hj];rfl),Qo (by omega),HFX.out]
     have h1:=HCL1.out j hj;rw[R5 (w:=w1) (a:=⟨gu,k,none⟩) (b:=⟨gu,j,none⟩) (h:=by intro h;injection h with _ h2;omega),h1]
     simp only[show(j<k+1)=(j<k) from propext (by omega)]
    exact hbw1.setCell (Qn _) _
   case measure=>simp[intOf];omega
  have hke:k=js.length:=by omega
  subst hke;have hcl:∀j,j<(js.map F).length->Cq wr gu j (Iq ((js.map F).getD j 0))/\(js.map F).getD j 0<=100:=λj hj=>by
   have hj':j<js.length:=by simpa using hj
   have h1:=HCL.out j hj';rw[Qo hj'] at h1;have e:(js.map F).getD j 0=F (js.getD j 0):=by simp[Qi,hj']
   rw[e];exact⟨h1,by have:=hF (js.getD j 0);omega⟩
  have W1:=wB (js.map F) 0 gu js.length wr (by simp;omega) (λj hj=>(hcl j hj).1)
  have W2:=zL kd (js.map F) gu wr (by simpa using hn3) (by simpa using hn1) HKK.out (λ_=>trivial) (by simpa using HK14.out) hcl
  simp only[Ro] at W1 W2;have HBW:=Hi hbw;have c0':=(hbw.cell (p:=⟨b,0,none⟩) (by rw[<-HGU.out];exact Qk w _ c0)).trans c0
  generalize iW kd (js.map F)=ov at*;cases hct:(js.map F).contains 0 with
  |true=>
   rw[hct] at W1;have HE:Hid (r=0):=by show _=_;rw[<-HR.out,hct,Qo rfl]
   go_wp2_with fail;apply W1.mono;rintro e w' ⟨rfl,rfl⟩;go_wp2;go_ret;exact⟨da (by rw[HE.out];rfl),by rw[HGU.out];exact HBW.out⟩
  |false=>
   rw[hct] at W1;have HE:Hid (r=ov):=by show _=_;rw[<-HR.out,hct];rfl
   go_wp2_with fail;apply W1.mono;rintro e w' ⟨rfl,rfl⟩;go_wp2_with fail;apply W2.mono;rintro e w2 ⟨rfl,hb2⟩;go_wp2;go_ret;exact⟨da (by rw[HE.out]),by rw[HGU.out];exact HBW.out.trans (hb2.mono (by rw[<-HGU.out];exact HBW.out.size))⟩
end
section
variable {bs : Nat}
variable {F L xs x r fr i t c}
theorem wD {js:List Nat} (D:∀j∈js,F j=0\/lf (F j)):(js.map λj=>eA (F j)).contains 0=(js.map F).contains 0:=by
 rw[RE,QJ,QJ,RC,RC];constructor
 ·rintro⟨j,z,e⟩;exact⟨j,z,(mh (D j z)).1 e⟩
 rintro⟨j,z,e⟩;exact⟨j,z,(mh (D j z)).2 e⟩
theorem GZ:eA 0=0:=by decide
theorem BC {its:LB} (hW:∀k,k<L.length->hY (L.getD k cz).tok) (ab:∀c∈its,lf c) (ac:its.length<=xs.length) (ag:xs.length<=1001) (f):∀{U i b cap a w},dN f L U i->nF xs its.length L U (i+1)->dh bs L (N1 (dx (fI xs))) w i b->DI w a (eG (xs.take its.length) its)->
 Calls prog 111 #[Pq b,.slice a (eG (xs.take its.length) its).length cap] w λe w'=>e= .returned (Iq (eA (dk xs its L f i)))/\Bl w w':=by
 have V:=n9 (xs.take its.length) its (by simp;omega)
 induction f with
 |zero=>intro U i b cap a w h;exact h.elim
 |succ f ih=>
  intro U i b cap a w D hG hC hS;by_cases E:(L.getD i cz).tok.k=111
  ·obtain⟨Y,I⟩:=hG i D.le (by omega) E
   have Z: ¬dx (fI (xs.take its.length)) (L.getD i cz).tok.text<0:=λh=>by have:=(sP _ Y xs its.length).1 h;omega
   have J:=vh its.length (xs:=xs) (s:=(L.getD i cz).tok.text) (by omega)
   have ad:(dx (fI (xs.take its.length)) (L.getD i cz).tok.text).toNat<(eG (xs.take its.length) its).length:=by
    rw[V];rcases zx (fI (xs.take its.length)) (L.getD i cz).tok.text with h|h
    ·omega
    rw[h] at Z;exact absurd (by simp[dx]) Z
   refine DK (its:=its) D hC hS ?_ E (by rw[J];omega) (by rw[J];exact ad) ?_
   ·rw[V];have:=uM (xs.take its.length);simp at this;omega
   rw[J,yb _ Y xs its ac I,dk,qY D.2.1 E];have e:eX xs its (L.getD i cz).tok ([].map (dk xs its L f))=(its.getD (cX xs (L.getD i cz).tok.text its.length).toNat 0).toNat:=by
    unfold eX;rw[Qj (by omega),Qo E]
   rw[e,Sa];rfl
  by_cases O:(L.getD i cz).subs=[]
  ·have ha:eH (L.getD i cz).tok=true:=by
    rcases D.2.1 with⟨z,_⟩|⟨_,z⟩|⟨_,z⟩|⟨n,_,_,z⟩
    ·exact z
    all_goals (rw[O] at z;simp at z)
   have z:=(zv xs its (hW i D.1) ha E).1;have e:eA (dk xs its L (f+1) i)=qI (cy (L.getD i cz).tok):=by
    rw[dk,O,<-z];rfl
   rw[e];exact Bz hC E O
  have R:=fY _ D.2.2;have aa:∀j∈(L.getD i cz).subs,dk xs its L f j=0\/lf (dk xs its L f j):=λj G=>by
   obtain⟨ae,z,h2,h3⟩:=R j G;exact pU hW ab f h3 (λq a b=>hG q (by omega) (by omega))
  have z:=BB (a:=a) (m:=(eG (xs.take its.length) its).length) (cap:=cap) (λj=>eA (dk xs its L f j)) (λj=>By _) hC E D.2.1 O (λj G bj w1 af hb=>by
   obtain⟨ae,z,h2,h3⟩:=R j G;exact ih h3 (λq a b=>hG q (by omega) (by omega)) af (hS.grow hb))
  have e:(if(((L.getD i cz).subs.map λj=>eA (dk xs its L f j)).contains 0)=true then 0 else iW (cy (L.getD i cz).tok) ((L.getD i cz).subs.map λj=>eA (dk xs its L f j)))=eA (dk xs its L (f+1) i):=by
   rw[wD aa,dk];cases hc:((L.getD i cz).subs.map (dk xs its L f)).contains 0 with
   |true=>rw[Qo rfl,Qo rfl];exact GZ.symm
   |false=>
    rw[Qj (by simp),Qj (by simp)]
    refine(zw D.2.1 O λj G=>?_).1.symm
    rcases aa j G with I|I
    ·exfalso;have:((L.getD i cz).subs.map (dk xs its L f)).contains 0=true:=by rw[QJ,<-I];exact RB G
     rw[hc] at this;simp at this
    exact I
  rw[e] at z;exact z
theorem jS (D:iu L) (z:iR L fr x.top) (hp:x.top+1=x.parts) (h:dt xs L (x::r) fr i=none):
 nF xs i L fr (x.top+1)/\dt xs L r x.parts (i+1)=none:=by
 have G:=(dN.res (xs:=xs) (n:=i) D.up z.fit).1;rw[vg D z hp] at h;by_cases I:x.name≠[]/\0<=dx (fI (xs.take i)) x.name
 ·rw[Qo I] at h;simp at h
 rw[Qj I] at h;cases J:kY (oO xs i) (x.top+1) L x.top with
 |some p=>rw[J] at h;simp at h
 |none=>
  rw[J] at G h;refine⟨λq h2 h3 O=>⟨D.own q (by have:=z.fit.lt;omega) O,(zc _ _ _ G).2 q h2 (by have:=z.fit.le;omega) O⟩,h⟩
theorem BD {its:LB} (D:c=dk xs its L (x.top+1) x.top) (E:t=eA c) (z:c=0\/lf c):
 dP xs L (x::r) its=if t=0\/(x.name=[]/\t≠2) then some x.pl else dP xs L r (its++[c]):=by
 rw[dP,<-D,E];have G:c.toNat=0↔eA c=0:=by rcases z with rfl|rfl|rfl|rfl<;>decide
 have I:c.toNat=116↔eA c=2:=by rcases z with rfl|rfl|rfl|rfl<;>decide
 simp only[G,ne_eq,I]
end
section
attribute [local go_sem ↓] Go.wp_at_zero Go.wp_at_succ
variable {bs : Nat}
variable {w base v l L xs ys}
theorem NY (h:w.ownsRow base 220 1 v l.length (l.map λ(n:Nat)=>Value.int .i64 n)):∃a cap,v= .slice a l.length cap/\DI w a l:=by
 obtain⟨O,h⟩:=h;rcases h with⟨rfl,E⟩|⟨g,cap,q,rfl,R,G,U,V,h3,I⟩
 ·exact⟨none,0,by rw[E],λk D=>by omega⟩
 refine⟨_,cap,rfl,λk D=>⟨g,rfl,?_⟩⟩
 rw[Qm w g k _ _ _ G];have J:q[k]?=(q.toList.take (l.length*1))[k]?:=by
  rw[Rv (by omega)];simp
 rw[J,I];simp[D,Qi]
theorem G0 (hL:iu L) (hW:∀k,k<L.length->hY (L.getD k cz).tok) (hrow:w.ownsRow base 163 10 v ys.length (dB ys)) (hy:ys.length<=1001)
 (hit:du (dh bs L (N1 (dx (fI xs))) w) xs ys) (htr:fs L xs 0) (hnm:dt xs L xs 0 0=none):
 Calls prog 59 #[v] w λe w'=>e= .returned (GX (dP xs L xs []))/\Bl w w':=by
 obtain⟨a,cap,rfl,hcell⟩:=jR hrow;obtain⟨i0,hi,hz0,hz1,hz2⟩:=Ry yG;have hlen:=Hi hit.len;have hlx:Hid (xs.length<=1001):=by show _<=_;rw[<-hit.len];exact hy
 have HC:=Hi hcell;have HT:=Hi hit;have HTR:=Hi htr;have HL:=Hi hL;have HNM:=Hi hnm;have HW:=Hi hW;clear hrow hcell hit htr hL hnm hW;go_enter func59,ntmps59;go_wp2;go_loopw [4,10] (λlv kv wr=> ∃k fr its,k<=ys.length/\kv= Iq k/\Hid (dP xs L xs []=dP xs L (xs.drop k) its)/\Hid (its.length=k/\ ∀c∈its,lf c)/\Hid (dt xs L (xs.drop k) fr k=none)/\Hid (fs L (xs.drop k) fr)/\Hid (du (dh bs L (N1 (dx (fI xs))) w) (xs.drop k) (ys.drop k))/\wr.ownsRow w.heap.size 220 1 lv (eG (xs.take k) its).length ((eG (xs.take k) its).map λ(n:Nat)=>Value.int .i64 n)/\Below w.heap.size w wr) (λ_ kv _=>ys.length - (intOf kv).toNat)
 case atStart=>exact⟨0,0,[],QA _,rfl,rfl,⟨rfl,by simp⟩,HNM.out,HTR.out,HT.out,QX _ _ _ _,Qq _ _⟩
 case round=>
  obtain⟨k,fr,its,hk,rfl,HM,HIS,HNM2,HTR2,HIT2,hown,hbw⟩:=hrel;by_cases hlt:k<ys.length
  ·have hltx:k<xs.length:=by rw[<-hlen.out];exact hlt
   obtain⟨hisl,hisy⟩:=HIS.out;have hll:=n9 (xs.take k) its (by rw[hisl];simp;omega)
   have hgl:=uM (xs.take k);have hgl2:(eG (xs.take k) its).length<=k:=by rw[hll];exact QV hgl (by simp;omega)
   clear hll hgl;have ht2:=HTR2.out;have hi2:=HIT2.out;have hn2:=HNM2.out;rw[ep hltx dr] at ht2 hi2 hn2;rw[ep hltx dr] at HM;rw[ep hlt (ee,ee,0,0)] at hi2;obtain⟨g,rfl,⟨gcs,hgc⟩,hcells⟩:=HC.out k hlt;have HTX:=Hi (nM hltx dr);generalize xs.getD k dr=x at*;generalize ys.getD k (ee,ee,0,0)=y at*;obtain⟨⟨hCd,hO⟩,hi2⟩:=hi2;obtain⟨hTr,hpt,ht2⟩:=ht2;obtain⟨hgv,hn2⟩:=jS HL.out hTr hpt hn2;obtain⟨t0,u0,b,wh⟩:=y;simp only[] at hCd hO;have hct:∀j,j<10->wr.cell? ⟨g,k*10+j,none⟩=(eK (t0,u0,b,wh))[j]?:=λj hj=>by
    rw[hbw.cell (p:=⟨g,k*10+j,none⟩) (be hgc)];exact hcells j hj
   have c0:=hct 0 (by omega)
   have c1:=hct 1 (by omega)
   have c2:=hct 2 (by omega)
   have c3:=hct 3 (by omega)
   have c4:=hct 4 (by omega)
   have c5:=hct 5 (by omega)
   have c6:=hct 6 (by omega)
   have c7:=hct 7 (by omega)
   have c8:=hct 8 (by omega)
   have c9:=hct 9 (by omega)
   simp[eK] at c0 c1 c2 c3 c4 c5 c6 c7 c8 c9;have hTF:=hTr.fit;obtain⟨al,capl,rfl,hSt⟩:=NY hown;have hb0:Bl wr (wr.alloc (.cells #[Iq (cy t0),Iq t0.pl,Iq (cV t0),S (cE t0),Iq (cy u0),Iq u0.pl,Iq (cV u0),S (cE u0),Iq wh,Pq b] 163 (0,0))):=(Qq _ _).alloc (Qn _) _;have hbw0:Bl w (wr.alloc (.cells #[Iq (cy t0),Iq t0.pl,Iq (cV t0),S (cE t0),Iq (cy u0),Iq u0.pl,Iq (cV u0),S (cE u0),Iq wh,Pq b] 163 (0,0))):=hbw.alloc hbw.size _;have hgv':nF xs its.length L fr (x.top+1):=by rw[hisl];exact hgv
   have hSt':DI (wr.alloc (.cells #[Iq (cy t0),Iq t0.pl,Iq (cV t0),S (cE t0),Iq (cy u0),Iq u0.pl,Iq (cV u0),S (cE u0),Iq wh,Pq b] 163 (0,0))) al (eG (xs.take its.length) its):=by rw[hisl];exact hSt.grow hb0
   have W1:=BC (cap:=capl) HW.out hisy (by rw[hisl];omega) hlx.out (x.top+1) hTF hgv' (hCd.grow hbw0) hSt'
   rw[hisl] at W1;have hty:=pU (xs:=xs) HW.out hisy (x.top+1) hTF hgv';have HST:=Hi (BD (r:=xs.drop (k+1)) rfl rfl hty);have htc:=By (dk xs its L (x.top+1) x.top);have hty2:Hid (eA (dk xs its L (x.top+1) x.top)≠0->lf (dk xs its L (x.top+1) x.top)):=λh=>by
    rcases hty with h0|h0
    ·exact absurd (by rw[h0];decide) h
    exact h0
   have hown0:=cD hown hb0;have hz0':(wr.alloc (.cells #[Iq (cy t0),Iq t0.pl,Iq (cV t0),S (cE t0),Iq (cy u0),Iq u0.pl,Iq (cV u0),S (cE u0),Iq wh,Pq b] 163 (0,0))).heap[wr.heap.size]?=_:=Qp wr _;have HTR3:=Hi ht2;have HIT3:=Hi hi2;have HNM3:=Hi hn2;have hFw:=Hi hbw0;have hOwn:=Hi hown0;have HIL:=Hi hisl;have HIY:=Hi hisy;unfold wu at hO;have hp1:t0.pl=x.pl:=by rcases hO with hO|hO<;>exact hO.2.2.1
   have hp0':=Hi hp1;clear hp1 hTr hTF hCd ht2 hi2 hct hcells hSt hbw hown hb0 hbw0 hgc HTR2 HIT2 HNM2 hown0 HTR HT HNM hgv hgv' hSt' hty hisl hisy hn2 HIS;generalize hkd0:cy t0=kd at*;generalize u0.pl=m5 at*;generalize cE u0=s7 at*;generalize t0.pl=p0 at*;generalize cV t0=m2 at*;generalize cE t0=s3 at*;generalize cy u0=m4 at*;generalize cV u0=m6 at*;generalize htyc:dk xs its L (x.top+1) x.top=tc at*;clear htyc;generalize htt:eA tc=tt at*;have HTT:=Hi htt;clear htt;generalize hlts:eG (xs.take k) its=lts at*;have HLT:=Hi hlts;clear hlts;rcases hO with hO|hO;have hkd:=hO.2.1;subst hkd;have HNE:=Hi hO.1;rotate_left;have hkd:((kd:Int)==(11:Int))=false:=by
    have h1:=hO.2.1;have: ¬((kd:Int)=11):=by split at h1<;>omega
    simpa using this
   have HNE:=Hi hO.1;have hkd2:((kd:Int) !=(11:Int))=true:=by simpa using hkd
   rotate_left
   all_goals
    clear hO hkd0;go_wp2_with fail;apply W1.mono;rintro e w1 ⟨rfl,hb1⟩;clear W1 c0 c1 c2 c3 c4 c5 c6 c7 c8 c9;have hz1':=(hb1.block _ (be hz0')).trans hz0';have hBw:=Hi (hFw.out.trans (hb1.mono hFw.out.size));have hown1:=cD hOwn.out hb1;have hs1:=hBw.out.size;obtain⟨⟨z0,z1,z2,z3,z4,z5,z6,z7,z8,z9⟩,zf⟩:=dI hz1';clear hz1' hz0' hb1 hFw hOwn;generalize wr.heap.size=bi at*;by_cases h0:tt=0
    ·subst h0;go_wp2;refine Qs (v:= .tuple #[Iq p0,.bool false]) (by simp[results,results59,go_sem]) rfl ⟨?_,hBw.out⟩
     rw[HM.out,HST.out,Qo (by simp),<-hp0'.out];rfl
    have h02:((tt:Int)==(0:Int))=false:=by
     have: ¬((tt:Int)=0):=by omega
     simpa using this
    have H0:=Hi h0;clear h0
   ·go_wp2_with (
     at_builtin;go_must (refine wpList_append_lies _ (by rfl) _ _ 219 (by rfl) w.heap.size 220 i0 (Iq 0) 1 8 underlying219 hi hz0 hz1 hz2 (by rfl) (by decide) _ _ _ (by rfl) (hown1.alloc _) ⟨w1.heap.size,0,none⟩ 1 1 [Iq tt] (by rfl) (by rfl) (World.news_of_block (Qp w1 _)) (λx hx=>by simp at hx;rcases hx with rfl;rfl) (by decide) (by unfold maxLen;omega) (by omega) (by simp;omega) _ rfl ?_)
     intro g3 cap3 w3 hown3 hgrow3 hat hlt3)
    refine⟨⟨k+1,x.parts,its++[tc],by omega,by simp,?_,⟨by simp[HIL.out],?_⟩,HNM3.out,HTR3.out,HIT3.out,?_,gP hBw.out hown1 hgrow3⟩,by simp[intOf];omega⟩
    ·show _=_;rw[HM.out,HST.out,Qj (λe=>by rcases e with e|e;exact H0.out e;exact HNE.out e.1)]
    ·intro c hc;simp at hc;rcases hc with hc|rfl
     ·exact HIY.out c hc
     exact hty2.out H0.out
    have e:eG (xs.take (k+1)) (its++[tc])=lts++[tt]:=by
     rw[HTX.out,oP _ _ _ _ (by rw[HIL.out];simp;omega),Qj HNE.out,HLT.out,HTT.out]
    rw[e];simpa using hown3
   by_cases h2:tt=2
   ·subst h2;clear h02;go_wp2;refine⟨⟨k+1,x.parts,its++[tc],by omega,by simp,?_,⟨by simp[HIL.out],?_⟩,HNM3.out,HTR3.out,HIT3.out,?_,hBw.out⟩,by simp[intOf];omega⟩
    ·show _=_;rw[HM.out,HST.out,Qj (λe=>by rcases e with e|e;exact absurd e (by decide);simp at e)]
    ·intro c hc;simp at hc;rcases hc with hc|rfl
     ·exact HIY.out c hc
     exact hty2.out H0.out
    have e:eG (xs.take (k+1)) (its++[tc])=lts:=by
     rw[HTX.out,oP _ _ _ _ (by rw[HIL.out];simp;omega),Qo HNE.out,HLT.out]
    rw[e];exact hown1
   have h22:((tt:Int)==(2:Int))=false:=by
    have: ¬((tt:Int)=2):=by omega
    simpa using this
   have H2:=Hi h2;clear h2;go_wp2;refine Qs (v:= .tuple #[Iq p0,.bool false]) (by simp[results,results59,go_sem]) rfl ⟨?_,hBw.out⟩
   rw[HM.out,HST.out,Qo (.inr ⟨HNE.out,H2.out⟩),<-hp0'.out];rfl
  have hke:k=ys.length:=by omega
  subst hke;have hm:Hid (dP xs L xs []=none):=by
   have:=HM.out;rw[QG (by rw[hlen.out];exact Qn _)] at this
   exact this
  go_wp2;refine Qs (v:= .tuple #[Iq 0,.bool true]) (by simp[results,results59,go_sem]) rfl ⟨?_,hbw⟩
  rw[hm.out];rfl
end
section
variable {bs : Nat}
variable {w base g ts F R}
structure Fm (ts) (a):Prop where
 sorted:ve ts
 tokw:∀t∈ts,hY t
 own:∀t∈ts,t.k=111->t.text≠[]
 from_:∀t∈ts,a<=t.pl
 pos:0<ts.length
 fin:cy (cq ts (ts.length - 1))=0
theorem oz (t) (ts) (n):cq (t::ts) (n+1)=cq ts n:=by unfold cq;simp
theorem wE (t) (ts):cq (t::ts) 0=t:=by unfold cq;simp
theorem tI (l) (f):∀a ts,a<=l.length->l.length - a<f->kP f l a=(ts,none)->Fm ts a/\ts.length<=l.length - a+1:=by
 induction f with
 |zero=>intro a ts _ h;omega
 |succ f ih=>
  intro a ts R hf h;have h1:=pM kM l a;have h2:=jW kM l a R;rw[kP] at h
  by_cases U:l.length<=dm kM l a
  ·rw[Qo U] at h;simp at h;subst h
   refine⟨⟨?_,?_,?_,?_,by simp,by simp[cq,cy]⟩,by simp⟩
   ·intro m n Y D;simp at D;omega
   ·intro t E;simp at E;subst E;exact .inr (.inr (.inl rfl))
   ·intro t E;simp at E;subst E;simp
   ·intro t E;simp at E;subst E;exact R
  ·rw[Qj U] at h
   cases I:fk l (dm kM l a) with
   |none=>rw[I] at h;simp at h
   |some t=>
    rw[I] at h;simp only[QS] at h;obtain⟨rfl,D⟩:=h;obtain⟨V,w2,Z,w4⟩:=l9 (by omega) I
    obtain⟨G,i2⟩:=ih (dm kM l a+t.text.length) (kP f l (dm kM l a+t.text.length)).1 (by omega) (by omega) (by rw[<-D])
    generalize (kP f l (dm kM l a+t.text.length)).1=J at*;have O:∀n,n<J.length->dm kM l a+t.text.length<=(cq J n).pl:=λn D=>G.from_ _ (jq D)
    refine⟨⟨?_,?_,?_,?_,by simp,?_⟩,by simp;omega⟩
    ·intro m n Y D
     cases n with
     |zero=>omega
     |succ n=>
      simp at D;rw[oz]
      cases m with
      |zero=>rw[wE,Z];have:=O n D;omega
      |succ m=>rw[oz];exact G.sorted m n (by omega) D
    ·intro u z;simp at z;rcases z with rfl|z
     ·exact JO l _ (by omega) _ I
     ·exact G.tokw u z
    ·intro u z;simp at z;rcases z with rfl|z
     ·intro _ e;rw[e] at V;simp at V
     ·exact G.own u z
    ·intro u z;simp at z;rcases z with rfl|z
     ·omega
     ·have:=G.from_ u z;omega
    ·have hp:=G.pos
     have e:(t::J).length - 1=(J.length - 1)+1:=by simp;omega
     rw[e,oz];exact G.fin
theorem DL {cap} (hp:0<ts.length) (h:w.ownsRow base 160 4 (Sq g ts.length cap) ts.length (oe ts)):
 (∃cs,w.heap[g]?=some (.cells cs 160 (0,0)))/\ ∀i,i<ts.length->Cq w g (i*4) (Iq (cy (cq ts i)))/\Cq w g (i*4+1) (Iq (cq ts i).pl)/\Cq w g (i*4+2) (Iq (cV (cq ts i)))/\Cq w g (i*4+3) (S (cE (cq ts i))):=by
 obtain⟨hl,h⟩:=h;rcases h with⟨O,_⟩|⟨g',R,D,e,hb,G,h1,h2,h3,U⟩
 ·simp at O
 ·simp only[QK,QE,RL] at e
  obtain⟨⟨rfl,_⟩,_,rfl⟩:=e;refine⟨⟨D,G⟩,λi V=>?_⟩
  have z:∀j,j<4->w.cell? ⟨g,i*4+j,none⟩=(yv (cq ts i))[j]?:=λj hj=>by
   rw[Qm w g (i*4+j) _ _ _ G];have Y:D[i*4+j]?=(D.toList.take (ts.length*4))[i*4+j]?:=by
    rw[Rv (by omega)];simp
   rw[Y,U];have:∀(ts:List Tok) (k:Nat),k<ts.length->(oe ts)[k*4+j]?=(yv (cq ts k))[j]?:=by
    intro ts
    induction ts with
    |nil=>intro k E;simp at E
    |cons y ys ih=>
     intro k E;have I:oe (y::ys)=yv y++oe ys:=rfl;have Z:(yv y).length=4:=rfl
     cases k with
     |zero=>rw[I,QT (by omega),wE];simp
     |succ k=>
      rw[I,QQ (by omega),Z,show(k+1)*4+j - 4=k*4+j from by omega,ih k (by simpa using E),oz]
   exact this ts i V
  exact⟨z 0 (by omega),z 1 (by omega),z 2 (by omega),z 3 (by omega)⟩
theorem tJ (z:Fm ts 0) (Z:ts.length<=1001) (h:dH F ts g 0 [] []=some R) (U:R.ok=true):
 fs R.L R.xs 0/\iu R.L/\(∀k,k<R.L.length->hY (R.L.getD k cz).tok):=by
 obtain⟨V,D,h3,h4⟩:=uo z.sorted g 0 [] [] R rfl ⟨by simp,by simp,by simp⟩ (by simp) (by omega) h U
 refine⟨V,⟨D.2.1,λk E Y=>z.own _ (D.2.2 k E) Y,by omega⟩,λk E=>z.tokw _ (D.2.2 k E)⟩
end
section
attribute [local go_sem ↓] Go.wp_at_zero Go.wp_at_succ
structure wF (bs) (L) (xs) (base) (v) (ys) (w:World):Prop where
 row:w.ownsRow base 163 10 v ys.length (dB ys)
 few:ys.length<=1001
 items:du (dh bs L (N1 (dx (fI xs))) w) xs ys
 trees:fs L xs 0
 parts:iu L
 tokw:∀k,k<L.length->hY (L.getD k cz).tok
 names:dt xs L xs 0 0=none
 types:dP xs L xs []=none
 numb:sh 0 0 xs ys
 many:fz L xs 0 0=none
def Fo (er pl:Nat) (L:List Pt) (xs:List dw) (w:World) (e:Ending) (w':World):Prop:=
 Below w.heap.size w w'/\ ∃v,e= .returned (.tuple #[v,Iq er,Iq pl])/\(er=0-> ∃D ys,w.heap.size<=D/\wF D L xs w.heap.size v ys w')
theorem DM (l:LB) (w:World) (h:1000<l.length) (z:l.length<=maxLen) (L) (xs:List dw):Calls prog 32 #[S l] w (Fo 1 0 L xs w):=by
 unfold maxLen at z;go_enter func32,ntmps32;go_wp2;refine Qs (v:= .tuple #[.slice none 0 0,Iq 1,Iq 0]) (by simp[results,results32,go_sem]) rfl ?_
 exact⟨Qq _ _,_,rfl,λe=>by simp at e⟩
theorem DN (l:LB) (w) (hW:Wd w) (h:l.length<=1000) (ts) (p) (D:kP (l.length+1) l 0=(ts,some p)) (L:List Pt) (xs):Calls prog 32 #[S l] w (Fo 2 p L xs w):=by
 have z:=yw l w hW h;unfold vH at z;rw[D] at z;simp only[] at z;go_enter func32,ntmps32;go_wp2_with fail;apply z.mono;rintro e G ⟨E,rfl⟩;go_wp2;refine Qs (v:= .tuple #[.slice none 0 0,Iq 2,Iq p]) (by simp[results,results32,go_sem]) rfl ?_
 exact⟨E,_,rfl,λe=>by simp at e⟩
theorem du.grow {z L N w w'} (D:Bl w w') {xs ys} (h:du (dh z L N w) xs ys):du (dh z L N w') xs ys:=h.mono λ_ _ h=>h.grow D
theorem BE (l:LB) (w) (hW:Wd w) (h:l.length<=1000) (ts) (hx:kP (l.length+1) l 0=(ts,none)) {F g:Nat} {R:nY} (hR:dH F ts g 0 [] []=some R):
 Calls prog 32 #[S l] w (Fo (di ts R).1 (di ts R).2 R.L R.xs w):=by
 obtain⟨aw,aE⟩:=tI l (l.length+1) 0 ts (QA _) (by omega) hx
 have HS:=yw l w hW h;unfold vH at HS;rw[hx] at HS;simp only[] at HS;have HR:=Hi hR;have E:=Hi aw;have aj:ts.length<=1001:=by omega
 have hV:Hid (di ts R=di ts R):=rfl;generalize hv:di ts R=vd at*;have HV:=Hi hv;go_enter func32,ntmps32;go_wp2_with fail;apply HS.mono;rintro e w1 ⟨ax,gw,cap,rfl,ad⟩;obtain⟨ak,am⟩:=DL E.out.pos ad;have W1:=GV (F:=F) (cl:=cap) (w:=w1) E.out.tokw E.out.own E.out.pos aj E.out.fin ak am HR.out;have z:=Hi ax;go_wp2_with fail;apply W1.mono;rintro e w2 ⟨ae,⟨ok,rfl⟩|⟨ok,v,ys,rfl,af,aa,ay,az⟩⟩
 ·clear W1;have I:Hid (vd=(3,(cq ts R.i).pl)):=by show _=_;rw[<-HV.out];unfold di;rw[Qo ok]
  have D:=Hi (z.out.trans (ae.mono z.out.size));generalize (cq ts R.i).pl=pp at*;go_wp2;refine Qs (v:= .tuple #[.slice none 0 0,Iq 3,Iq pp]) (by simp[results,results32,go_sem]) rfl ?_
  rw[I.out];exact⟨D.out,_,rfl,λe=>by simp at e⟩
 clear W1;obtain⟨an,ao,aA⟩:=tJ E.out aj HR.out ok;have ab:du (dh w1.heap.size R.L (N0 (dx (fI R.xs))) w2) R.xs ys:=ay.mono λi b hc=>hc.toS λk hk=> .inl rfl
 have U:=Mp ao.few aa af ab an az;have D:=Hi (z.out.trans (ae.mono z.out.size));have ap:=Hi an;have aq:Hid (iu R.L):=ao;have aB:=Hi aA;have aC:=Hi ab;have ar:Hid (w2.ownsRow w.heap.size 163 10 v ys.length (dB ys)):=by
  obtain⟨q1,q2⟩:=aa;refine⟨q1,?_⟩;rcases q2 with q2|⟨g',c',aF,q3,q4,q5⟩
  ·exact .inl q2
  exact .inr ⟨g',c',aF,q3,QV z.out.size q4,q5⟩
 have ag:=Hi ok;have au:Hid (w.heap.size<=w1.heap.size):=z.out.size;cases hm:fz R.L R.xs 0 0 with
 |some p=>
  rw[hm] at U;have I:Hid (vd=(4,p)):=by show _=_;rw[<-HV.out];unfold di;rw[Qj (by rw[ag.out];simp),hm]
  unfold GX at U;go_wp2_with fail;apply U.mono;rintro e w3 ⟨rfl,G⟩;go_wp2;refine Qs (v:= .tuple #[.slice none 0 0,Iq 4,Iq p]) (by simp[results,results32,go_sem]) rfl ?_
  rw[I.out];exact⟨D.out.trans (G.mono D.out.size),_,rfl,λe=>by simp at e⟩
 |none=>
  rw[hm] at U;have HM:=Hi hm;unfold GX at U;go_wp2_with fail;apply U.mono;rintro e w3 ⟨rfl,G⟩;have J:=cD ar.out G;have W3:=Bx aq.out J af (aC.out.grow G) ap.out;have V:=Hi (D.out.trans (G.mono D.out.size));have ah:=Hi J;go_wp2_with fail;apply W3.mono;rintro e w4 (⟨p,hn,rfl,hf⟩|⟨hn,rfl,hf,ac⟩)
  ·clear W3;have I:Hid (vd=(5,p)):=by show _=_;rw[<-HV.out];unfold di;rw[Qj (by rw[ag.out];simp),HM.out];simp only[];rw[hn]
   go_wp2;refine Qs (v:= .tuple #[.slice none 0 0,Iq 5,Iq p]) (by simp[results,results32,go_sem]) rfl ?_
   rw[I.out];exact⟨V.out.trans (hf.below au.out V.out.size),_,rfl,λe=>by simp at e⟩
  clear W3;have O:=oy ah.out (by decide) hf
  have Y:=G0 aq.out aB.out O af ac ap.out hn;have ai:Hid (Bl w w4):=V.out.trans ((hf.mono λ_ _ _ _ h=>h.1:RF (SB w1.heap.size) w3 w4).below au.out V.out.size)
  have aD:=Hi ac;have HN:=Hi hn;have av:=Hi O;cases ht:dP R.xs R.L R.xs [] with
  |some p=>
   rw[ht] at Y;have I:Hid (vd=(6,p)):=by show _=_;rw[<-HV.out];unfold di;rw[Qj (by rw[ag.out];simp),HM.out];simp only[];rw[HN.out];simp only[];rw[ht]
   unfold GX at Y;go_wp2_with fail;apply Y.mono;rintro e w5 ⟨rfl,Z⟩;go_wp2;refine Qs (v:= .tuple #[.slice none 0 0,Iq 6,Iq p]) (by simp[results,results32,go_sem]) rfl ?_
   rw[I.out];exact⟨ai.out.trans (Z.mono ai.out.size),_,rfl,λe=>by simp at e⟩
  |none=>
   rw[ht] at Y;have I:Hid (vd=(0,0)):=by show _=_;rw[<-HV.out];unfold di;rw[Qj (by rw[ag.out];simp),HM.out];simp only[];rw[HN.out];simp only[];rw[ht]
   have aG:=Hi ht;unfold GX at Y;go_wp2_with fail;apply Y.mono;rintro e w5 ⟨rfl,Z⟩;go_wp2;refine Qs (v:= .tuple #[v,Iq 0,Iq 0]) (by simp[results,results32,go_sem]) rfl ?_
   rw[I.out];exact⟨ai.out.trans (Z.mono ai.out.size),_,rfl,λ_=>⟨w1.heap.size,ys,au.out,cD av.out Z,af,aD.out.grow Z,ap.out,aq.out,aB.out,HN.out,aG.out,az,HM.out⟩⟩
end
section
attribute [local go_sem ↓] Go.wp_at_zero Go.wp_at_succ
variable {bs : Nat}
variable {t u b n x}
theorem je (a b : List UInt8) : (ByteArray.mk a.toArray ++ ByteArray.mk b.toArray) = ByteArray.mk (a ++ b).toArray := by
  apply TN
  simp
set_option maxHeartbeats 2000000 in
theorem Ks (hx : wu x t u) (hn : x.name.length <= 1000) (w : World) (hS : Sp w) :
    Calls prog 66 #[OL t u n b] w λe w' => e = .returned (S (lZ x)) /\ Below w.heap.size w w' := by
  unfold OL
  have hb := (Qq w.heap.size w).alloc (Qn _) (fN t u n (.pointer (some ⟨b, 0, none⟩)))
  have hS2 : Sp (w.alloc (fN t u n (.pointer (some ⟨b, 0, none⟩)))) := hS.below hS.pos hb
  have HB : Hid _ := hb
  have HIT : Hid (fN t u n (.pointer (some ⟨b, 0, none⟩)) = .cells #[.int .i64 (cy t), .int .i64 t.pl, .int .i64 (cV t), S (cE t), .int .i64 (cy u), .int .i64 u.pl, .int .i64 (cV u), S (cE u), .int .i64 n, .pointer (some ⟨b, 0, none⟩)] 163 (0, 0)) := rfl
  rcases hx with ⟨h1, h2, h3, h4, h5, h6, h7⟩ | ⟨h1, h2, h3, h4⟩
  · have HE : Hid (lZ x = nw ++ x.name ++ xB) := by show _ = _; unfold lZ; rw [Qj h1]
    generalize lZ x = r at *
    unfold fN at HB
    rw [h2, h6] at HB
    rw [h2, h6]
    generalize x.name = nm at *
    clear hb hS2 hS h1 h2 h3 h4 h5 h6 h7 HIT
    generalize t.pl = q1 at *
    generalize cV t = q2 at *
    generalize cE t = q3 at *
    generalize cy u = q4 at *
    generalize u.pl = q5 at *
    generalize cV u = q6 at *
    go_enter func66, ntmps66
    go_wp2_with fail
    go_ret
    refine ⟨?_, HB.out⟩
    rw [HE.out]
    have e1 := je nw nm
    have e2 := je (nw ++ nm) xB
    exact RK (λs => Ending.returned (Value.string s)) (by rw [<- e2, <- e1]; rfl)
  · have hk : cy t = 12 \/ cy t = 13 := by rw [h2]; split; exact .inl rfl; exact .inr rfl
    have HE : Hid (lZ x = cU.getD (cy t) [] ++ [32, 105, 102, 32]) := by
      show _ = _; unfold lZ; rw [Qo h1, h2]; split <;> rfl
    have W1 := gK (cy t) _ hS2 (by omega)
    have hk11 : ((cy t : Int) == (11 : Int)) = false := by
      have : ¬ ((cy t : Int) = 11) := by omega
      simpa using this
    have hsl : (cU.getD (cy t) []).length <= 10 := by rcases hk with hk | hk <;> rw [hk] <;> decide
    rw [HIT.out] at W1 HB
    generalize lZ x = r at *
    clear hb hS2 hS h1 h2 h3 h4 HIT
    generalize cU.getD (cy t) [] = sp at *
    generalize cy t = kd at *
    generalize t.pl = q1 at *
    generalize cV t = q2 at *
    generalize cE t = q3 at *
    generalize cy u = q4 at *
    generalize u.pl = q5 at *
    generalize cV u = q6 at *
    generalize cE u = q7 at *
    go_enter func66, ntmps66
    go_wp2_with fail
    refine W1.mono ?_
    rintro e w' ⟨rfl, rfl⟩
    clear W1
    go_wp2_with fail
    go_ret
    refine ⟨?_, HB.out⟩
    rw [HE.out]
    exact RK (λs => Ending.returned (Value.string s)) (je sp [32, 105, 102, 32])
end
end Go.Proofs.YtfkdailfcmnjlaaGreatDoor
