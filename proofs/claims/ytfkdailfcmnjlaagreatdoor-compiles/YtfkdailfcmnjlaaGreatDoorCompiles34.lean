/-
  A part.
-/
import Derived.Test.YtfkdailfcmnjlaaGreatDoorCompiles33
set_option linter.all false
set_option maxHeartbeats 40000000
set_option maxRecDepth 1000000
namespace Go.Proofs.YtfkdailfcmnjlaaGreatDoor
open Go Go.RowKit Tryz
section
attribute [local go_sem ↓] Go.wp_at_zero Go.wp_at_succ
variable {w B g z O w' lo j k' J i p vs st c V Y k R a l n b x}
def qT (O:Nat->Nat) (s j:Nat) (b:Nat):Nat:=if s<=b then j+1 else O b
theorem fG.lt {come} (h:fG w B g z O come):g<w.heap.size:=by
 obtain⟨cs,D,_⟩:=h.blk;exact cq D
theorem fG.upd {come} (h:fG w B g lo O come) (hj:lo<=j) (Z:j<come.length) (ho:cK (λb=>b=g\/O b=j+1) w w')
 (aa:∃cs,w'.heap[g]?=some (.cells cs 285 (0,0))/\cs.size=come.length) (I:∀j',j'≠j->w'.cell? ⟨g,j',none⟩=w.cell? ⟨g,j',none⟩)
 (ab:∃p vs J st c,Cq w' g j (.pointer (some ⟨p,0,none⟩))/\fk w' p vs J st c/\vr k' st c/\ ∀b,eJ p vs J b->O b=j+1\/w.heap.size<=b):fG w' B g lo (qT O w.heap.size j) (come.set j (some k')):=by
 have hg:=h.lt;have E:(come.set j (some k')).length=come.length:=by simp
 refine⟨by rw[E];exact aa,λi hi D G=>?_,λi hi D k U=>?_,?_,λb z=>?_,h.lowg,SF h.siz ho.size⟩
 ·rw[E] at D;by_cases e:i=j
  ·subst e;rw[cT Z] at G;cases G
  rw[getD_set_ne (λa=>e a.symm)] at G
  rw[I i e];exact h.non i hi D G
 ·rw[E] at D;by_cases e:i=j
  ·subst e;rw[cT Z] at U;obtain rfl:=SK U;obtain⟨p,vs,J,st,c,h1,V,h3,Y⟩:=ab;refine⟨p,vs,J,st,c,h1,V,h3,λb z=>?_⟩
   unfold qT;rcases Y b z with R|R
   ·split
    ·rfl
    exact R
   rw[RK R]
  rw[getD_set_ne (λa=>e a.symm)] at U
  obtain⟨p,vs,J,st,c,h1,V,h3,Y⟩:=h.som i hi D k U;refine⟨p,vs,J,st,c,by rw[I i e];exact h1,V.only ho (λb z G=>?_),h3,λb z=>?_⟩
  ·have R:=Y b z;rcases G with rfl|G
   ·rw[h.own] at R;omega
   omega
  unfold qT;rw[RH (by have:=V.lt z;omega)];exact Y b z
 ·unfold qT;rw[RH (by omega)];exact h.own
 unfold qT at z;by_cases e:w.heap.size<=b
 ·have:=h.siz;omega
 rw[RH e] at z;exact h.low b z
def tq (O:Nat->Nat) (w w':World) (B g J:Nat) (come:List (Option Kn)) (i p:Nat) (vs G:Value) (st c:List Int):Prop:=
 ∃D,fG w' B g J D come/\fk w' p vs G st c/\(∀b,eJ p vs G b->D b=i+1)/\Below B w w'/\ ∀b,b<w.heap.size->b≠g->O b=0->D b=0/\w'.heap[b]?=w.heap[b]?
theorem fG.rest {w w':World} (z:cK (λb=>b=g\/O b=j+1) w w'):∀b,b<w.heap.size->b≠g->O b=0->qT O w.heap.size j b=0/\w'.heap[b]?=w.heap[b]?:=λb D E G=>by
 refine⟨by unfold qT;rw[RH (by omega)];exact G,z.block b D (λh=>?_)⟩
 rcases h with h|h
 ·exact E h
 omega
theorem fG.below {w w' B g D j O come} (h:fG w B g D O come) (E:cK (λb=>b=g\/O b=j+1) w w'):Below B w w':=
 E.below h.siz (λb _ z=>by
  rcases z with rfl|z
  ·exact h.lowg
  exact h.low b (by omega))
theorem fG.here {come} (h:fG w B g J O come) (E:fk w p vs z st c) (G:∀b,eJ p vs z b->O b=i+1) (V:i≠j) (R:cK (λb=>b=g\/O b=j+1) w w'):fk w' p vs z st c/\ ∀b,eJ p vs z b->qT O w.heap.size j b=i+1:=by
 refine⟨E.only R (λb D I=>?_),λb D=>?_⟩
 ·have U:=G b D;rcases I with rfl|I
  ·rw[h.own] at U;omega
  omega
 unfold qT;rw[RH (by have:=E.lt D;omega)];exact G b D
theorem Ob {a b:List Nat}:yx a=yx b↔a=b:=by
 refine⟨λh=>?_,λh=>by rw[h]⟩
 have z:a.reverse=b.reverse:=by
  unfold yx at h;exact(List.map_inj_right (λx y e=>by omega)).1 h
 simpa using z
theorem C7 {z:Int} {g n cap p:Nat} (G:n<=5000) (D:z=0\/z=n) (w):
 Calls prog 191 #[Sq g n cap,.int .i64 z,.pointer (some ⟨p,0,none⟩)] w λe w'=>e= .returned (.bool false)/\w'=w:=by
 by_cases E:z=0
 ·subst E;go_enter func191,ntmps191;go_wp2;go_ret;exact⟨rfl,rfl⟩
 obtain rfl:z=n:=by omega
 have I:(n==0)=false:=by simp;omega
 go_enter func191,ntmps191;go_wp2;go_ret;exact⟨rfl,rfl⟩
theorem Fu {cap come} (h:fG w B g V O come) (hs:fk w p vs Y st c) (hk:vr k st c) (hO:∀b,eJ p vs Y b->O b=i+1) (ad:i≠j) (hj:V<=j) (ai:0<j) (aa:j<come.length) (hn:come.length<=5000) (hl:st.length<=5000) (hc:c.length<=5000) (ab:come.getD j none=none):
 Calls prog 191 #[Sq g come.length cap,.int .i64 j,.pointer (some ⟨p,0,none⟩)] w λe w'=>e= .returned (.bool true)/\tq O w w' B g V (come.set j (some k)) i p vs Y st c:=by
 have U:=h.non j hj aa ab;have ae:w.frozen? ⟨g,j,none⟩=false:=by obtain⟨cs,hc,_⟩:=h.blk;simp[World.frozen?,hc]
 have b0:((j:Int)==0)=false:=by simp;omega
 have bn:((j:Int)==(come.length:Int))=false:=by simp;omega
 have W1:∀W,Below w.heap.size w W->Calls prog 236 #[.pointer (some ⟨p,0,none⟩)] W λe w'=> ∃E z D,e= .returned (.pointer (some ⟨E,0,none⟩))/\fk w' E z D st c/\Below W.heap.size W w'/\ ∀b,eJ E z D b->W.heap.size<=b:=λW I=>Fp (hs.only (cK.of_below (F:=λ_=>False) I) (λ_ _ h=>h)) hl hc
 have HA:Hid (∀G E z D,fk G E z D st c->Below w.heap.size w G->(∀b,eJ E z D b->w.heap.size<=b)->tq O w (G.setCell ⟨g,j,none⟩ (.pointer (some ⟨E,0,none⟩))) B g V (come.set j (some k)) i p vs Y st c):=λG E z D Z J h3=>by
  have hg:=h.lt;obtain⟨cs,af,ag⟩:=h.blk;have ah:G.heap[g]?=_:=(J.block g hg).trans af;have ho:cK (λb=>b=g\/O b=j+1) w (G.setCell ⟨g,j,none⟩ (.pointer (some ⟨E,0,none⟩))):=(cK.of_below J).setCell (.inl (.inl rfl)) _
  obtain⟨q1,q2⟩:=h.here hs hO ad ho;refine⟨qT O w.heap.size j,h.upd hj aa ho ⟨_,R3 G g j _ _ _ ah,by simpa using ag⟩ (λj' e=>?_) ⟨E,z,D,st,c,?_,?_,hk,λb I=> .inr (h3 b I)⟩,q1,q2,h.below ho,fG.rest ho⟩
  ·rw[cN _ _ _ _ _ (λa=>e a.symm)]
   exact J.cell (p:=⟨g,j',none⟩) hg
  ·exact dc _ _ _ _ (by rw[J.cell (p:=⟨g,j,none⟩) hg,U];rfl)
  exact Z.only ((cK.refl (λb=>b=g) G).setCell (.inl rfl) _) (λb I e=>by have:=h3 b I;omega)
 have R:∀W,Below w.heap.size w W->W.cell? ⟨g,j,none⟩=some (.pointer none)/\W.frozen? ⟨g,j,none⟩=false:=λW I=>⟨by rw[I.cell (p:=⟨g,j,none⟩) h.lt];exact U,by rw[I.frozen (p:=⟨g,j,none⟩) h.lt];exact ae⟩
 have ac:=Hi R;generalize come.length=n at*;go_enter func191,ntmps191;go_wp2_with fail;apply(W1 w (RP _ _)).mono;rintro e G ⟨E,z,D,rfl,Z,J,h3⟩;obtain⟨d1,d2⟩:=ac.out G J;have HU:=Hi (HA.out G E z D Z J h3);go_wp2;go_ret;exact⟨rfl,HU.out⟩
theorem Fv {cap come} (h:fG w B g Y O come) (hs:fk w p vs R st c) (hk:vr k st c) (hO:∀b,eJ p vs R b->O b=i+1) (ag:i≠j) (hj:Y<=j) (ar:0<j) (aa:j<come.length) (hn:come.length<=5000) (hl:st.length<=5000) (ah:a.st.length<=5000) (au:a.cl.length<=5000) (af:a.cl.length=k.cl.length) (ab:come.getD j none=some a):
 Calls prog 191 #[Sq g come.length cap,.int .i64 j,.pointer (some ⟨p,0,none⟩)] w λe w'=>e= .returned (.bool (decide (a.st=k.st)))/\tq O w w' B g Y (come.set j (some ⟨a.st,hU a.cl k.cl⟩)) i p vs R st c:=by
 obtain⟨q,us,uc,I,c2,Z,ac,z,D⟩:=h.som j hj aa a ab
 have b0:((j:Int)==0)=false:=by simp;omega
 have bn:((j:Int)==(come.length:Int))=false:=by simp;omega
 have ai:I.length<=5000:=by rw[z.st];simpa [yx] using ah
 have U:∀b,eJ q us uc b-> ¬eJ p vs R b:=λb h1 V=>by have:=D b h1;have:=hO b V;omega
 have aj:c2.length<=5000:=by have:=z.len;omega
 have W1:=Jt ac hs U ai hl aj
 have he:decide (I=st)=decide (a.st=k.st):=by
  rw[z.st,hk.st]
  exact UD.2 Ob
 rw[he] at W1
 have HA:Hid (∀E,cV w E q us uc I (ti c2 c c2.length)->tq O w E B g Y (come.set j (some ⟨a.st,hU a.cl k.cl⟩)) i p vs R st c):=λE ak=>by
  obtain⟨am,an,h1,V,h3⟩:=ak
  have hg:=h.lt
  obtain⟨cs,ao,ap⟩:=h.blk
  have G:cK (λb=>b=g\/O b=j+1) w E:=V.weak (λb _ hb=> .inr (D b hb))
  have ad: ¬eJ q us uc g:=λe=>by have:=D g e;rw[h.own] at this;omega
  have aq:E.heap[g]?=_:=(V.block g hg ad).trans ao
  obtain⟨q1,q2⟩:=h.here hs hO ag G
  have ae:∀J,E.cell? ⟨g,J,none⟩=w.cell? ⟨g,J,none⟩:=λJ=>R1 (w:=w) (a:=⟨g,J,none⟩) (V.block g hg ad)
  refine⟨qT O w.heap.size j,h.upd hj aa G ⟨_,aq,ap⟩ (λJ _=>ae J) ⟨q,am,an,I,_,(ae _).trans Z,h1,PQ z hk af,λb hb=>?_⟩,q1,q2,h.below G,fG.rest G⟩
  rcases h3 b hb with h4|h4
  ·exact .inl (D b h4)
  ·exact .inr h4
 generalize come.length=n at*
 generalize hr:decide (a.st=k.st)=r at W1
 go_enter func191,ntmps191
 go_wp2_with (
  go_at_call 237
  apply W1.mono
  rintro e E ⟨rfl,G⟩
  have HU:=Hi (HA.out _ G)
  clear G)
 go_ret
 exact⟨rfl,HU.out⟩
theorem uV (w) (q z A):Bl w (((w.alloc q).alloc z).alloc A):=(((RP _ _).alloc (RL _) _).alloc (by simp) _).alloc (by simp;omega) _
theorem Jx (x y:LB) (k) (w):Calls prog 48 #[.agg #[.bool false,S x,S y],po k] w λe w'=>e= .returned (.tuple #[po k,.bool true])/\Bl w w':=by
 unfold po;have D:Hid (∀q z A,Bl w (((w.alloc q).alloc z).alloc A)):=λq z A=>uV w q z A
 go_enter func48,ntmps48;go_wp2;refine RU (v:= .tuple #[.agg #[.bool true,S (gD k.st),S (jq k.cl)],.bool true]) (by simp[results,results48,go_sem]) rfl ?_
 exact⟨rfl,D.out _ _ _⟩
def tu (x y:List UInt8) (i:Nat):List UInt8:=(List.range i).map λj=>if x.getD j 0=y.getD j 0 then x.getD j 0 else 45
theorem Jy (x y:LB) (i):tu x y (i+1)=tu x y i++[if x.getD i 0=y.getD i 0 then x.getD i 0 else 45]:=by simp[tu,Vf]
theorem C8 (x y:LB) (i):(tu x y i).length=i:=by simp[tu]
theorem PR {a b:List Nat} (G:tK a) (I:tK b) (J:a.length=b.length):tu (jq a) (jq b) a.length=jq (hU a b):=by
 apply TF;intro i;by_cases z:i<a.length
 ·have q:i<b.length:=by omega
  rw[tu,Se,TJ z,TH,AT a z,AT b q];have D:=G.getD i;have E:=I.getD i;simp only[jq,hU,Se,List.getElem?_zipWith,RI z,RI q,TH];rw[RG,RI z] at D⊢;rw[RG,RI q] at E⊢;simp only[TM] at*;by_cases A:a[i]=b[i]
  ·rw[A];simp
  rw[RH (λh=>A (AP D E h))];simp[A,rA]
 rw[R2 (by rw[C8];omega),R2 (by rw[lX];simp[hU];omega)]
theorem Jz (A q B z:LB) (hl:q.length=z.length) (hc:q.length<=255) (w):Calls prog 48 #[.agg #[.bool true,S A,S q],.agg #[.bool true,S B,S z]] w λe w'=>e= .returned (.tuple #[.agg #[.bool true,S A,S (tu q z q.length)],.bool (decide (A=B))])/\Bl w w':=by
 obtain⟨D,E⟩:∃D,((w.alloc (.cells #[.bool true,S A,S q] 124)).alloc (.cells #[.bool true,S B,S z] 124)).alloc (.cells #[.bool false,.string ⟨#[]⟩,.string ⟨#[]⟩] 124)=D:=⟨_,rfl⟩;have O:Bl w D:=by rw[<-E];exact uV w _ _ _
 have k1:D.heap[w.heap.size]?=some (.cells #[.bool true,S A,S q] 124 (0,0)):=by
  rw[<-E];exact(RV _ _ _ (by simp;omega)).trans ((RV _ _ _ (by simp)).trans (RO w _))
 have k2:D.heap[w.heap.size+1]?=some (.cells #[.bool true,S B,S z] 124 (0,0)):=by
  rw[<-E];have h:=RO (w.alloc (.cells #[.bool true,S A,S q] 124)) (.cells #[.bool true,S B,S z] 124);rw[RW] at h;exact(RV _ _ _ (by simp)).trans h
 have k3:D.heap[w.heap.size+1+1]?=some (.cells #[.bool false,.string ⟨#[]⟩,.string ⟨#[]⟩] 124 (0,0)):=by
  rw[<-E];have h:=RO ((w.alloc (.cells #[.bool true,S A,S q] 124)).alloc (.cells #[.bool true,S B,S z] 124)) (.cells #[.bool false,.string ⟨#[]⟩,.string ⟨#[]⟩] 124);rw[RW,RW] at h;exact h
 have HW:=Hi E;have HK:Hid (∀W,Bl D W->W.heap[w.heap.size]?=some (.cells #[.bool true,S A,S q] 124 (0,0))/\W.heap[w.heap.size+1]?=some (.cells #[.bool true,S B,S z] 124 (0,0))/\W.heap[w.heap.size+1+1]?=some (.cells #[.bool false,.string ⟨#[]⟩,.string ⟨#[]⟩] 124 (0,0))/\Bl w W):=λW h=>⟨(h.block _ (cq k1)).trans k1,(h.block _ (cq k2)).trans k2,(h.block _ (cq k3)).trans k3,O.trans (h.mono O.size)⟩
 clear E O k1 k2 k3;go_enter func48,ntmps48;go_wp2_with fail;rw[HW.out];go_loopw [6,7] (λsv av wr=> ∃i,i<=q.length/\av= Iq i/\sv=S (tu q z i)/\Hid (Bl D wr)) (λ_ av _=>q.length - (intOf av).toNat)
 case atStart=>exact⟨0,by omega,rfl,rfl,RP _ _⟩
 case round=>
  obtain⟨i,hi,rfl,rfl,HI⟩:=hrel;obtain⟨V,Y,I,b4⟩:=HK.out _ HI.out;have c2:Cq wr w.heap.size 2 (S q):=RM wr _ 2 _ _ _ V;have d2:Cq wr (w.heap.size+1) 2 (S z):=RM wr _ 2 _ _ _ Y;by_cases aa:i<q.length
  ·have ac:i<(ByteArray.mk q.toArray).size:=aa;have ad:i<(ByteArray.mk z.toArray).size:=by show i<z.length;omega
   have pa:=gq q i ac;have pb:=gq z i ad;have J:=Jy q z i;have ab:Hid (Bl D wr.drew):=HI.out.drew;have aj:(0:Int)<=(i:Int)/\(i:Int)<=(i:Int)+1/\(i:Int)+1<=(q.length:Int):=by omega
   have ae:({data:=q.toArray}:ByteArray).extract i (i+1)=⟨(cut q i (i+1)).toArray⟩:=gC _ _ _;have af:cut q i (i+1)=[q.getD i 0]:=by
    unfold cut;apply TF;intro j;rcases j with _|j
    ·simp[TN,RG,RI aa]
    simp;omega
   rw[af] at ae;have ak:=C8 q z i;generalize hx:q.getD i 0=x at*;generalize hy:z.getD i 0=y at*;generalize tu q z i=m at*;clear HK V Y I b4 HW;by_cases R:x=y
   ·subst R;rw[RK rfl] at J;have U:Hid (S (tu q z (i+1))= .string (BA m++BA [x])):=by show _=_;rw[J,nD]
    clear J;go_wp2_with fail;go_region
    all_goals go_wp2
    all_goals exact⟨⟨i+1,by omega,by go_num,U.out.symm,ab.out⟩,by simp[intOf];omega⟩
   rw[RH R] at J;have U:Hid (S (tu q z (i+1))= .string (BA m++BA [45])):=by show _=_;rw[J,nD]
   have ag: ¬(x.toNat=y.toNat):=λh=>R (Tq.1 h)
   have ah:(x.toNat==y.toNat)=false:=by simp;omega
   clear J;go_wp2_with fail;go_region
   all_goals go_wp2
   all_goals exact⟨⟨i+1,by omega,by go_num,U.out.symm,ab.out⟩,by simp[intOf];omega⟩
  obtain rfl:i=q.length:=by omega
  have c1:Cq wr w.heap.size 1 (S A):=RM wr _ 1 _ _ _ V;have d1:Cq wr (w.heap.size+1) 1 (S B):=RM wr _ 1 _ _ _ Y;have r0:Cq wr (w.heap.size+1+1) 0 (.bool false):=RM wr _ 0 _ _ _ I;have r1:Cq wr (w.heap.size+1+1) 1 (.string ⟨#[]⟩):=RM wr _ 1 _ _ _ I;have r2:Cq wr (w.heap.size+1+1) 2 (.string ⟨#[]⟩):=RM wr _ 2 _ _ _ I;have Z:∀o,wr.frozen? ⟨w.heap.size+1+1,o,none⟩=false:=λo=>by simp[World.frozen?,I]
  have g0:=Z 0;have g1:=Z 1;have g2:=Z 2;have HB:Hid (∀v0 v1 v2,Bl w (((wr.setCell ⟨w.heap.size+1+1,0,none⟩ v0).setCell ⟨w.heap.size+1+1,1,none⟩ v1).setCell ⟨w.heap.size+1+1,2,none⟩ v2)):=λv0 v1 v2=>((b4.setCell (by simp only[];omega) _).setCell (by simp only[];omega) _).setCell (by simp only[];omega) _
  generalize hm:tu q z q.length=m at*;have HM:Hid (tu q z q.length=m):=hm;have HL:Hid (q.length=z.length):=hl;clear HK V Y I b4 HW Z HI hm;by_cases G:A=B
  ·subst G;go_wp2_with fail;go_region
   all_goals go_wp2
   all_goals refine RU (v:= .tuple #[.agg #[.bool true,S A,S m],.bool true]) (by simp[results,results48,go_sem,dc,cN,fD,r0,r1,r2]) rfl ?_
   all_goals exact⟨by rw[<-HL.out,HM.out];try simp,(HB.out _ _ _).drew⟩
  have ag: ¬((⟨A.toArray⟩:ByteArray)=⟨B.toArray⟩):=λh=>G (by injection h with h;simpa using Te Array.toList h)
  go_wp2_with fail;go_region
  all_goals go_wp2
  all_goals refine RU (v:= .tuple #[.agg #[.bool true,S A,S m],.bool false]) (by simp[results,results48,go_sem,dc,cN,fD,r0,r1,r2,G]) rfl ?_
  all_goals exact⟨by rw[HM.out];simp[G],(HB.out _ _ _).drew⟩
theorem JA (A:ki a.st) (D:tK a.cl) (h3:ki k.st) (E:tK k.cl) (z:a.cl.length=k.cl.length) (G:a.cl.length<=255) (w):Calls prog 48 #[po a,po k] w λe w'=>e= .returned (.tuple #[po ⟨a.st,hU a.cl k.cl⟩,.bool (decide (a.st=k.st))])/\Bl w w':=by
 have h:=Jz (gD a.st) (jq a.cl) (gD k.st) (jq k.cl) (by rw[lX,lX];exact z) (by rw[lX];exact G) w
 refine h.mono λe w' ⟨I,J⟩=>⟨?_,J⟩
 rw[I,lX,PR D E z];have e:decide (gD a.st=gD k.st)=decide (a.st=k.st):=by
  by_cases q:a.st=k.st
  ·rw[q];simp
  rw[Sc q,Sc (λh=>q (GL A h3 h))]
 rw[e];rfl
def fW (x:ey):List Int:=(kK x).map λ(p:Nat)=>(p:Int)
theorem GP {w:World} {cap} (q:n=l.length) (z:cap=l.length) (A:0<l.length) (D:l.length<=10):IR (w.alloc (.cells (l.map (Value.int .i64)).toArray 3)) 3 (Sq w.heap.size n cap) l:=by
 subst q;subst z
 refine⟨by simp,.inr ⟨w.heap.size,l.length,(l.map (Value.int .i64)).toArray,by simp,?_,RO w _,?_,?_,?_,?_⟩⟩
 ·exact R0 _
 ·exact RL _
 ·unfold maxLen;omega
 ·simp
 ·rw[Vi,Sz (by simp)]
theorem JB (z:sR b x) (hb:b.length<=4000) (w):
 Calls prog 47 #[S b,Iq x.pl] w λe w'=>(∃v,e= .returned v/\IR w' 3 v (fW x))/\Below w.heap.size w w':=by
 have q:=AU z;have R:=z.fits;have J:0<cE x.op:=Ub z.size;have O:=kD z;obtain⟨U,V⟩:=O.op;have ha:x.pl<(ByteArray.mk b.toArray).size:=by show x.pl<b.length;omega
 have aa:((ByteArray.mk b.toArray)[x.pl]).toNat=x.op:=(gq b x.pl ha).trans q;have G:=λw=>xC x.op (by omega) w
 have HB:Hid (∀o,Below w.heap.size w (w.alloc o)):=λo=>(RP _ _).alloc (RL _) _
 have ad:x.pl<b.length:=by omega
 have hq:(0:Int)<=(x.pl:Int)/\(x.pl:Int)<(b.length:Int):=by omega
 by_cases Y:x.op=15\/x.op=16
 ·have h3:cE x.op=3:=by rcases Y with e|e<;>rw[e]<;>rfl
  have hn:=zI z h3;have ab:x.pl+1<(ByteArray.mk b.toArray).size:=by show x.pl+1<b.length;omega
  have ac:x.pl+2<(ByteArray.mk b.toArray).size:=by show x.pl+2<b.length;omega
  have b1:((ByteArray.mk b.toArray)[x.pl+1]).toNat=cy b (x.pl+1):=gq b _ ab;have b2:((ByteArray.mk b.toArray)[x.pl+2]).toNat=cy b (x.pl+2):=gq b _ ac;have l1:=fq b (x.pl+1);have l2:=fq b (x.pl+2);have q1:(0:Int)<=(x.pl:Int)+1/\(x.pl:Int)+1<(b.length:Int):=by omega
  have q2:(0:Int)<=(x.pl:Int)+2/\(x.pl:Int)+2<(b.length:Int):=by omega
  have I:Hid (fW x=if x.op=15 then[((x.pl:Int)+3),((x.pl:Int)+3+(cy b (x.pl+1):Int)*256+(cy b (x.pl+2):Int))] else[((x.pl:Int)+3+(cy b (x.pl+1):Int)*256+(cy b (x.pl+2):Int))]):=by
   show fW x=_
   unfold fW kK;rcases Y with e|e<;>simp[e,hn]<;>omega
  rw[h3] at G;generalize cy b (x.pl+1)=u1 at*;generalize cy b (x.pl+2)=u2 at*;generalize x.pl=pl at*;rcases Y with Z|Z<;>rw[Z] at aa G I
  all_goals
   go_enter func47,ntmps47
   go_wp2_with (
    go_at_call 49
    apply(G _).mono;rintro e w' ⟨rfl,rfl⟩)
   go_region
   go_wp2
   go_ret;refine⟨⟨_,rfl,?_⟩,(HB.out _).drew⟩;rw[I.out];exact GP rfl rfl (by simp) (by simp)
 have D: ¬x.op=15:=by omega
 have E: ¬x.op=16:=by omega
 by_cases A:x.op=17\/x.op=18
 ·have I:Hid (fW x=[]):=by
   show fW x=_
   unfold fW kK;rw[RH D,RH E,RK A];rfl
  have h2:cE x.op=2:=by rcases A with e|e<;>rw[e]<;>rfl
  rw[h2] at G;generalize x.op=op at*;generalize x.pl=pl at*;rcases A with rfl|rfl
  all_goals
   go_enter func47,ntmps47
   go_wp2_with (
    go_at_call 49
    apply(G _).mono;rintro e w' ⟨rfl,rfl⟩)
   refine RU (v:= .slice none 0 0) (by simp[results,results47,go_sem]) rfl ?_
   exact⟨⟨_,rfl,by rw[I.out];exact IR.nil _ _⟩,RP _ _⟩
 ·have I:Hid (fW x=[(x.pl:Int)+(cE x.op:Int)]):=by
   show fW x=_
   unfold fW kK;rw[RH D,RH E,RH A];simp
  have h9:=vH x.op;have ae:((x.op:Int)==15)=false:=by simp;omega
  have af:((x.op:Int)==16)=false:=by simp;omega
  have ag:((x.op:Int)==17)=false:=by simp;omega
  have ah:((x.op:Int)==18)=false:=by simp;omega
  generalize cE x.op=sz at*;generalize x.op=op at*;generalize x.pl=pl at*;go_enter func47,ntmps47
  go_wp2_with (
   go_at_call 49
   apply(G _).mono;rintro e w' ⟨rfl,rfl⟩)
  refine RU (v:= Sq w'.heap.size 1 1) (by simp[results,results47,go_sem]) rfl ?_
  refine⟨⟨_,rfl,?_⟩,HB.out _⟩;rw[I.out];exact GP (l:=[((pl:Int)+(sz:Int))]) rfl rfl (by simp) (by simp)
theorem JC:(prog.info? 4).map (λi=>(i.zero,i.size,i.bytes))=some (some (.bool false),1,1):=by kernel_rfl
def vt (n:Nat) (ins:List ey):Array Value:=((E7 n ins).map Value.bool).toArray
theorem JD (n) (ins):(vt n ins).size=n:=by simp[vt,sX]
theorem tx (ins) (h:p<n):(vt n ins)[p]?=some (.bool (zr ins p)):=by
 unfold vt;rw[RY,Se,AH ins h];rfl
theorem JE (n) (ins) (x):(vt n ins).setIfInBounds x.pl (.bool true)=vt n (ins++[x]):=by
 unfold vt;rw[<-IQ,Ve];simp
theorem JG (n:Nat):madeCells #[.bool false] n=vt n []:=by
 apply Array.ext
 ·rw[TE,JD]
 intro i q z;rw[TE] at q;have e:=tx [] q;rw[U0 z] at e;injection e with e;rw[e];simp[madeCells,zr,UN]
def PS (n q:Nat) (r:Option (List ey)) (e:Ending) (w':World):Prop:=match r with
 |none=>e= .returned (.slice none 0 0)
 |some ins=> ∃g,q<=g/\e= .returned (.slice (some ⟨g,0,none⟩) n n)/\w'.heap[g]?=some (.cells (vt n ins) 4 (0,0))
def PT (b:List UInt8) (w wr:World) (R:Option (List ey)) (a:Nat):Prop:= ∃pre,xe b a pre R/\wr.heap[w.heap.size]?=some (.cells (vt b.length pre) 4 (0,0))/\Below w.heap.size w wr
theorem xJ {b:LB} (h4:4<=b.length) (hb:b.length<=4000) (w:World):
 Calls prog 45 #[S b] w λe w'=>PS b.length w.heap.size (pj (b.length+1) b 3) e w'/\Bl w w':=by
 have ac:=run_make_row' (P:=prog) 120 4 (.bool false) 1 underlying120 JC rfl .i64 .i64 b.length (by omega) (by omega)
 have Z:Hid (PT b w (w.alloc (.cells (madeCells #[.bool false] b.length) 4)) (pj (b.length+1) b 3) 3):=⟨[],xe.first (by omega),by rw[<-JG];exact RO w _,(RP _ _).alloc (RL _) _⟩
 generalize pj (b.length+1) b 3=R at*;have G:=λI (h:I<256) w=>xC I h w
 have W2:=λI cells (h:I<256) (hc:cells<256) w=>Jj I cells h hc w
 go_enter func45,ntmps45;go_wp2_with fail;generalize ad:w.alloc (.cells (madeCells #[.bool false] b.length) 4)=W0 at*;go_loopw [4,5] (λav _ wr=> ∃a:Nat,a<=b.length/\av= Iq a/\Hid (PT b w wr R a)) (λav _ _=>b.length - (intOf av).toNat)
 case atStart=>exact⟨3,by omega,rfl,Z.out⟩
 case round=>
  obtain⟨a,ag,rfl,HI⟩:=hrel;obtain⟨pre,J,z,A⟩:=HI.out;by_cases V:a<b.length
  ·have ha:a<(ByteArray.mk b.toArray).size:=V;have ah:((ByteArray.mk b.toArray)[a]).toNat=cy b a:=gq b a ha;have ae:2<(ByteArray.mk b.toArray).size:=by show 2<b.length;omega
   have ai:((ByteArray.mk b.toArray)[2]).toNat=cy b 2:=gq b 2 ae;have aa:=fq b a;have hc:=fq b 2;have G:=λw=>G (cy b a) aa w
   have W2:=λw=>W2 (cy b a) (cy b 2) aa hc w
   have ab:=vH (cy b a);have q0:(0:Int)<=(a:Int)/\(a:Int)<(b.length:Int):=by omega
   have q:Hid (¬(cE (cy b a)≠0/\a+cE (cy b a)<=b.length/\(cE (cy b a)=2->(cy b (a+1):Int)<=dC (cy b a) (cy b 2)))->R=none):=J.bad V;have aj:wr.cell? ⟨w.heap.size,a,none⟩=some (.bool (zr pre a)):=by rw[RM wr _ a _ _ _ z,tx pre V]
   have ak:wr.frozen? ⟨w.heap.size,a,none⟩=false:=by simp[World.frozen?,z]
   have D:Hid (cE (cy b a)≠0/\a+cE (cy b a)<=b.length/\(cE (cy b a)=2->(cy b (a+1):Int)<=dC (cy b a) (cy b 2))-> ∀n,PT b w ((wr.drewN n).setCell ⟨w.heap.size,a,none⟩ (.bool true)) R (a+cE (cy b a))):=λhg n=>by
    refine⟨_,J.step V hg,?_,(below_drewN A n).setCell (RL _) _⟩;rw[<-JE];exact R3 (wr.drewN n) _ a _ _ _ z
   have O:Hid _:=A;by_cases Y:cE (cy b a)=0
   ·have U:Hid (R=none):=q.out (λh=>h.1 Y)
    rw[Y] at G;generalize cy b a=I at*;go_wp2_with (
     go_at_call 49;refine(G _).mono ?_;rintro e w' ⟨rfl,rfl⟩)
    go_quiet (fail);go_wp2;go_ret;exact⟨by rw[U.out];rfl,below_drewN O.out _⟩
   by_cases hB:a+cE (cy b a)<=b.length
   ·by_cases hC:cE (cy b a)=2
    ·have af:a+1<(ByteArray.mk b.toArray).size:=by show a+1<b.length;omega
     have am:((ByteArray.mk b.toArray)[a+1]).toNat=cy b (a+1):=gq b _ af;have q1:(0:Int)<=(a:Int)+1/\(a:Int)+1<(b.length:Int):=by omega
     have hu:=fq b (a+1);by_cases hD:(cy b (a+1):Int)<=dC (cy b a) (cy b 2)
     ·have HG:Hid _:=D.out ⟨Y,hB,λ_=>hD⟩
      rw[hC] at HG G;have n5:decide (dC (cy b a) (cy b 2)<(cy b (a+1):Int))=false:=by simp;omega
      have n1:decide ((b.length:Int)<(a:Int)+2)=false:=by simp;omega
      generalize dC (cy b a) (cy b 2)=bd at*;generalize cy b (a+1)=u at*;generalize cy b 2=c2 at*;generalize cy b a=I at*;go_wp2_with (
       go_at_call 49;refine(G _).mono ?_;rintro e w' ⟨rfl,rfl⟩)
      go_quiet (first|(go_at_call 95;refine Calls.quiet_of_same (W2 _)))
      go_wp2;exact⟨⟨a+2,by omega,by go_num,HG.out _⟩,by simp[intOf];omega⟩
     have U:Hid (R=none):=q.out (λh=>hD (h.2.2 hC))
     rw[hC] at G;have n5:dC (cy b a) (cy b 2)<(cy b (a+1):Int):=by omega
     have n1:decide ((b.length:Int)<(a:Int)+2)=false:=by simp;omega
     generalize dC (cy b a) (cy b 2)=bd at*;generalize cy b (a+1)=u at*;generalize cy b 2=c2 at*;generalize cy b a=I at*;go_wp2_with (
      go_at_call 49;refine(G _).mono ?_;rintro e w' ⟨rfl,rfl⟩)
     go_quiet (first|(go_at_call 95;refine Calls.quiet_of_same (W2 _)))
     go_wp2;go_ret;exact⟨by rw[U.out];rfl,below_drewN O.out _⟩
    have HG:Hid _:=D.out ⟨Y,hB,λh=>absurd h hC⟩
    generalize cE (cy b a)=E at*;generalize cy b a=I at*;have n0:((E:Int)==0)=false:=by simp;omega
    have n2:((E:Int)==2)=false:=by simp;omega
    have n1:decide ((b.length:Int)<(a:Int)+(E:Int))=false:=by simp;omega
    go_wp2_with (
     go_at_call 49;refine(G _).mono ?_;rintro e w' ⟨rfl,rfl⟩)
    go_quiet (fail);go_wp2;exact⟨⟨a+E,by omega,by go_num,HG.out _⟩,by simp[intOf];omega⟩
   have U:Hid (R=none):=q.out (λh=>hB h.2.1)
   generalize cE (cy b a)=E at*;generalize cy b a=I at*;have n0:((E:Int)==0)=false:=by simp;omega
   have n1:(b.length:Int)<(a:Int)+(E:Int):=by omega
   have an:IntKind.i64.wrap ((a:Int)+(E:Int))=(a:Int)+(E:Int):=by rw[Ss];omega
   go_wp2_with (
    go_at_call 49;refine(G _).mono ?_;rintro e w' ⟨rfl,rfl⟩)
   go_quiet (fail);go_wp2;go_ret;exact⟨by rw[U.out];rfl,below_drewN O.out _⟩
  have U:Hid (R=some pre):=J.last (by omega)
  have HX:Hid _:=And.intro z A;go_wp2;go_ret;exact⟨by rw[U.out];exact⟨_,RL _,rfl,HX.out.1⟩,HX.out.2⟩
end
variable {I E D i j k a b w w' B g O z p vs U st' c' m J R st c v L G wi vc}
def jW (ins:List ey) (x:ey):Int:=if x.op=15\/x.op=16 then(((fS ins x).getD 0:Nat):Int) else 0
structure k7 (w:World) (cp gi cap cells depth:Nat) (ins:List ey):Prop where
 blk:w.heap[cp]?=some (.cells #[Iq cells,.slice (some ⟨gi,0,none⟩) ins.length cap,Iq depth] 253 (0,0))
 op:∀i,i<ins.length->w.cell? ⟨gi,i*4,none⟩=some (Iq ((ins.getD i cI).op:Nat))
 num:∀i,i<ins.length->w.cell? ⟨gi,i*4+1,none⟩=some (Iq (ins.getD i cI).n)
 tos:∀i,i<ins.length->w.cell? ⟨gi,i*4+2,none⟩=some (Iq (jW ins (ins.getD i cI)))
 pls:∀i,i<ins.length->w.cell? ⟨gi,i*4+3,none⟩=some (Iq ((ins.getD i cI).pl:Nat))
theorem k7.below {w w':World} {cap cells ins} (h:k7 w I E cap cells D ins) (J:Bl w w'):k7 w' I E cap cells D ins:=by
 have G:∀{o:Nat} {v:Value},w.cell? ⟨E,o,none⟩=some v->w'.cell? ⟨E,o,none⟩=some v:=λ{o v} e=>by
  rw[J.cell (RN w _ e)];exact e
 exact⟨(J.block I (cq h.blk)).trans h.blk,λi z=>G (h.op i z),λi z=>G (h.num i z),λi z=>G (h.tos i z),λi z=>G (h.pls i z)⟩
def AV (n i:Nat) (o:Option Nat) (v:Int):Prop:=(o=none->v=0\/v=n)/\ ∀j,o=some j->v=j/\i+1<=j/\j<n
theorem JH {n i:Nat} (z:i<n):AV n i (if i+1<n then some (i+1) else none) ((i:Int)+1):=by
 by_cases h:i+1<n
 ·rw[RK h];exact⟨λe=>(by cases e),λj e=>by simp at e;omega⟩
 rw[RH h];exact⟨λ_=> .inr (by omega),λj e=>by cases e⟩
theorem JJ {b:LB} {ins} (h:fz b ins) (z:i<ins.length) (D:(ins.getD i cI).op=15\/(ins.getD i cI).op=16):AV ins.length i (fS ins (ins.getD i cI)) (jW ins (ins.getD i cI)):=by
 unfold jW;rw[RK D];cases e:fS ins (ins.getD i cI) with
 |none=>exact⟨λ_=> .inl rfl,λj e=>by cases e⟩
 |some j=>
  obtain⟨I,E,_⟩:=wV h z e;exact⟨λe=>(by cases e),λJ G=>by obtain rfl:=SK G;exact⟨rfl,by omega,E⟩⟩
theorem Mr {b:LB} {ins} (h:fz b ins) (J:i<ins.length):(zJ (ins.getD i cI).op (jW ins (ins.getD i cI)) i).length=(fb ins i (ins.getD i cI)).length/\ ∀m,m<(fb ins i (ins.getD i cI)).length->AV ins.length i ((fb ins i (ins.getD i cI)).getD m none) ((zJ (ins.getD i cI).op (jW ins (ins.getD i cI)) i).getD m 0):=by
 have O:=JJ h J;have R:=JH J;generalize ins.getD i cI=x at*;generalize jW ins x=v at*;unfold zJ fb;by_cases z:x.op=15
 ·rw[RH (by omega),RH (by omega),RK z,RK z]
  refine⟨rfl,λm G=>?_⟩
  have E:m<2:=G;match m,E with
  |0,_=>exact R
  |1,_=>exact O (.inl z)
 by_cases D:x.op=16
 ·rw[RH (by omega),RK D,RH z,RK D]
  refine⟨rfl,λm G=>?_⟩
  have E:m<1:=G;match m,E with
  |0,_=>exact O (.inr D)
 by_cases I:x.op=17\/x.op=18
 ·rw[RK I,RH z,RH D,RK I];exact⟨rfl,λm G=>absurd G (Nat.not_lt_zero m)⟩
 rw[RH I,RH D,RH z,RH z,RH D,RH I];refine⟨rfl,λm G=>?_⟩
 have E:m<1:=G;match m,E with
 |0,_=>exact R
def mT (cells:Nat) (come:List (Option Kn)):Prop:= ∀j k,come.getD j none=some k->ki k.st/\tK k.cl/\k.cl.length=cells/\k.st.length<=24
theorem mT.set {cells come} (h:mT cells come) (E:ki k.st/\tK k.cl/\k.cl.length=cells/\k.st.length<=24):mT cells (come.set j (some k)):=λi D e=>by
 by_cases z:j=i
 ·subst z;by_cases G:j<come.length
  ·rw[cT G] at e;obtain rfl:=SK e;exact E
  rw[List.set_eq_of_length_le (by omega)] at e;exact h j D e
 rw[getD_set_ne z] at e;exact h i D e
theorem C9 (h:tK a):tK (hU a b):=λt D=>by
 unfold hU at D;obtain⟨i,E,e⟩:=Tt.1 D;have z:(hU a b).getD i 0=t:=by unfold hU;rw[RG,RI E,e];rfl
 rw[vI] at z;split at z
 ·split at z
  ·rw[<-z,RG,RI (by omega)]
   exact h _ (R4 _)
  omega
 omega
theorem Da (cells n:Nat):mT cells (iG cells n):=λj k e=>by
 unfold iG at e;cases j with
 |zero=>
  simp at e;subst e;exact⟨λt z=>by simp at z,λt z=>by simp at z;omega,by simp,by simp⟩
 |succ j=>
  rw[R9,RG,Sn] at e;split at e<;>cases e
def JK (O:Nat->Nat) (s:Nat) (b:Nat):Nat:=if s<=b then 0 else O b
theorem fG.below' {come} (h:fG w B g I O come) (z:Bl w w'):fG w' B g I O come:=by
 obtain⟨cs,R,J⟩:=h.blk;have D:=h.lt;refine⟨⟨cs,(z.block g D).trans R,J⟩,λj E G h3=>?_,λj E G k h3=>?_,h.own,h.low,h.lowg,SF h.siz z.size⟩
 ·rw[z.cell D];exact h.non j E G h3
 obtain⟨p,vs,U,st,c,V,Y,Z,e4⟩:=h.som j E G k h3;exact⟨p,vs,U,st,c,by rw[z.cell D];exact V,Y.only (cK.of_below z) (λ_ _ h=>h),Z,e4⟩
theorem fG.from {come} (h:fG w B g D O come) (G:D<=z):fG w B g z O come:=
 ⟨h.blk,λj E=>h.non j (by omega),λj E=>h.som j (by omega),h.own,h.low,h.lowg,h.siz⟩
theorem fG.change {come} (h:fG w B g i O come) (I:∀b,eJ p vs U b->O b=i+1) (ho:cV w w' p vs U st' c'):
 ∃V D E,fG w' B g (i+1) V come/\fk w' p D E st' c'/\(∀b,eJ p D E b->V b=i+1)/\(∀b,w'.heap.size<=b->V b=0)/\Below B w w':=by
 obtain⟨D,E,h1,G,h3⟩:=ho;have hg:=h.lt;have ac: ¬eJ p vs U g:=λe=>by have:=I g e;rw[h.own] at this;omega
 have J:=G.block g hg ac;obtain⟨cs,hc,ad⟩:=h.blk;have R:∀j,w'.cell? ⟨g,j,none⟩=w.cell? ⟨g,j,none⟩:=λj=>R1 J
 refine⟨JK (qT O w.heap.size i) w'.heap.size,D,E,?_,h1,λb z=>?_,λb z=>by unfold JK;rw[RK z],G.below h.siz (λb _ z=>h.low b (by have:=I b z;omega))⟩
 ·refine⟨⟨cs,J.trans hc,ad⟩,λj q1 Y Z=>?_,λj q1 Y k Z=>?_,?_,λb z=>?_,h.lowg,SF h.siz G.size⟩
  ·rw[R];exact h.non j (by omega) Y Z
  ·obtain⟨p2,us,uc,st,c,e1,e2,e3,e4⟩:=h.som j (by omega) Y k Z
   refine⟨p2,us,uc,st,c,by rw[R];exact e1,e2.only G (λb z hn=>?_),e3,λb z=>?_⟩
   ·have:=e4 b z;have:=I b hn;omega
   have ae:=e2.lt z;have:=G.size;unfold JK qT;rw[RH (by omega),RH (by omega)];exact e4 b z
  ·have:=G.size;unfold JK qT;rw[RH (by omega),RH (by omega)];exact h.own
  unfold JK qT at z;split at z
  ·exact absurd rfl z
  split at z
  ·have:=h.siz;omega
  exact h.low b z
 have ae:=h1.lt z;unfold JK qT;rw[RH (by omega)]
 rcases h3 b z with h4|h4
 ·split
  ·rfl
  exact I b h4
 rw[RK h4]
structure O0 (w wi:World) (cells) (ins:List ey) (i p) (vs vc) (st c) (v) (L) (k) (come) (leads) (m) (O) (come'):Prop where
 at_:fG wi w.heap.size w.heap.size (i+1) O come'
 len:come'.length=ins.length
 set:fk wi p vs vc st c
 own:∀b,eJ p vs vc b->O b=i+1
 row:IR wi 3 v L
 rowO:∀b,v.ownBlock=some b->O b=0
 bel:Below w.heap.size w wi
 bri:dU come k leads=dU come' k (leads.drop m)
 typ:mT cells come'
theorem JL {α:Type} {l:List α} {d:α} (h:m<l.length):l.drop m=l.getD m d::l.drop (m+1):=by
 rw[R5 h,RG,RI h];rfl
theorem O0.next {cells ins come} (h:O0 w J cells ins i p vs R st c v L k come D m O z)
 (U:tq O J w' w.heap.size w.heap.size (i+1) (z.set j (some G)) i p vs R st c) (E:dU z k (D.drop m)=dU (z.set j (some G)) k (D.drop (m+1))) (Y:ki G.st/\tK G.cl/\G.cl.length=cells/\G.st.length<=24):∃I,O0 w w' cells ins i p vs R st c v L k come D (m+1) I (z.set j (some G)):=by
 obtain⟨I,Z,h2,h3,h4,h5⟩:=U;obtain⟨cs,hc,_⟩:=h.at_.blk;have hg:=h.row.ne hc (by decide)
 have V:∀b,v.ownBlock=some b->I b=0/\w'.heap[b]?=J.heap[b]?:=λb E=>h5 b (h.row.lt b E).2 (λe=>hg (by rw[<-e];exact E)) (h.rowO b E)
 exact⟨I,Z,by simpa using h.len,h2,h3,cO h.row (λb E=>(V b E).2),λb E=>(V b E).1,h.bel.trans h4,h.bri.trans E,h.typ.set Y⟩
theorem O0.come {cells ins cap come} (h:O0 w wi cells ins i p vs vc st c v L k come z m O D) (I:vr k st c) (ac:ki k.st/\tK k.cl/\k.cl.length=cells/\k.st.length<=24) (ad:cells<=256) (hm:m<z.length) (hn:ins.length<=4000) (hv:AV ins.length i (z.getD m none) (L.getD m 0)):
 Calls prog 191 #[Sq w.heap.size ins.length cap,Iq (L.getD m 0),Pq p] wi λe w'=> ∃r,e= .returned (.bool r)/\Bl w w'/\(r=true-> ∃R V,O0 w w' cells ins i p vs vc st c v L k come z (m+1) R V)/\(r=false->dU come k z=none):=by
 have Y:=JL (d:=none) hm;have ab:=h.len;cases J:z.getD m none with
 |none=>
  apply(C7 (by omega) (hv.1 J) wi).mono
  rintro e w' ⟨rfl,rfl⟩;refine⟨false,rfl,h.bel,λe=>(by cases e),λ_=>?_⟩
  rw[h.bri,Y,J];rfl
 |some j=>
  obtain⟨hj,aa,af⟩:=hv.2 j J;rw[hj,<-ab];have hl:st.length<=5000:=by rw[I.st];simp[yx];omega
  have hc:c.length<=5000:=by have:=I.len;omega
  cases E:D.getD j none with
  |none=>
   apply(Fu h.at_ h.set I h.own (by omega) aa (by omega) (by omega) (by omega) hl hc E).mono
   rintro e w' ⟨rfl,G⟩;have hb:dU D k (z.drop m)=dU (D.set j (some k)) k (z.drop (m+1)):=by rw[Y,J,dU,E]
   obtain⟨R,U⟩:=h.next G hb ac;exact⟨true,rfl,U.bel,λ_=>⟨R,_,U⟩,λe=>by cases e⟩
  |some a=>
   obtain⟨ta,tb,tc,td⟩:=h.typ j a E;apply(Fv h.at_ h.set I h.own (by omega) aa (by omega) (by omega) (by omega) hl (by omega) (by omega) (by omega) E).mono
   rintro e w' ⟨rfl,G⟩;by_cases Z:a.st=k.st
   ·have hb:dU D k (z.drop m)=dU (D.set j (some ⟨a.st,hU a.cl k.cl⟩)) k (z.drop (m+1)):=by
     rw[Y,J,dU,E];simp only[];rw[RK Z]
    obtain⟨R,U⟩:=h.next G hb ⟨ta,C9 tb,by simp[hU];omega,td⟩
    exact⟨true,by rw[Sr Z],U.bel,λ_=>⟨R,_,U⟩,λe=>by cases e⟩
   obtain⟨_,_,_,_,ae,_⟩:=G;refine⟨false,by rw[Sc Z],h.bel.trans ae,λe=>(by cases e),λ_=>?_⟩
   rw[h.bri,Y,J,dU,E];simp only[];rw[RH Z]
section
attribute [local go_sem ↓] Go.wp_at_zero Go.wp_at_succ
variable {n gi q}
theorem Ms:(prog.info? 285).map (λi=>(i.zero,i.size,i.bytes))=some (some (.pointer none),1,8):=by kernel_rfl
def Oc (w wr:World) (cells:Nat) (ins:List ey) (q i:Nat) (r:Bool):Prop:=
 ∃O come,fG wr w.heap.size w.heap.size i O come/\come.length=ins.length/\Below w.heap.size w wr/\r=iZ ins q (ins.drop i) i come/\mT cells come
theorem JM {w:World} {cells} (O:0<n):
 fG ((w.alloc (.cells ((madeCells #[.pointer none] n).setIfInBounds 0 (Pq (w.heap.size+1))) 285)).alloc (.cells #[.slice none 0 0,.slice none 0 0] 289)) w.heap.size w.heap.size 0 (λb=>if b=w.heap.size+1 then 1 else 0) (iG cells n):=by
 have G:(w.alloc (.cells ((madeCells #[.pointer none] n).setIfInBounds 0 (Pq (w.heap.size+1))) 285)).heap.size=w.heap.size+1:=RW _ _;have q:=(RV (w.alloc (.cells ((madeCells #[.pointer none] n).setIfInBounds 0 (Pq (w.heap.size+1))) 285)) (.cells #[.slice none 0 0,.slice none 0 0] 289) w.heap.size (by omega)).trans (RO w _)
 have I:=RO (w.alloc (.cells ((madeCells #[.pointer none] n).setIfInBounds 0 (Pq (w.heap.size+1))) 285)) (.cells #[.slice none 0 0,.slice none 0 0] 289);rw[G] at I;have z:=qv cells n O;have J:(madeCells #[Value.pointer none] n).size=n:=TE _ _;have D:∀j,j<n->((w.alloc (.cells ((madeCells #[.pointer none] n).setIfInBounds 0 (Pq (w.heap.size+1))) 285)).alloc (.cells #[.slice none 0 0,.slice none 0 0] 289)).cell? ⟨w.heap.size,j,none⟩=if j=0 then some (Pq (w.heap.size+1)) else some (.pointer none):=λj A=>by
  rw[RM _ _ j _ _ _ q];by_cases e:j=0
  ·subst e;rw[RK rfl,SP,RK rfl,RK (by omega)]
  rw[RH e,SQ (by omega)]
  unfold madeCells;simp[A,UN]
 refine⟨⟨_,q,by rw[Array.size_setIfInBounds,J,z]⟩,λj _ A R=>?_,λj _ A k E=>?_,by simp,λb q=>?_,RL _,by rw[RW,G];omega⟩
 ·rw[z] at A;rw[D j A,RH];intro e;subst e;simp[iG] at R
 ·rw[z] at A;cases j with
  |zero=>
   simp[iG] at E;subst E;refine⟨w.heap.size+1,.slice none 0 0,.slice none 0 0,[],[],by rw[D 0 A];rfl,⟨I,IR.nil _ _,IR.nil _ _,λb q=>by simp[Value.ownBlock] at q⟩,⟨rfl,by simp,λi=>?_⟩,λb q=>?_⟩
   ·rw[RG,RG,Sn];split<;>rfl
   rcases q with rfl|q|q
   ·exact RK rfl
   ·simp[Value.ownBlock] at q
   simp[Value.ownBlock] at q
  |succ j=>
   unfold iG at E;rw[R9,RG,Sn] at E;split at E<;>cases E
 by_cases e:b=w.heap.size+1
 ·omega
 exact absurd (RH e) q
abbrev Db (z q) (wr:World) (x:ey) (ins) (W:World):=W.cell? ⟨z,2,none⟩=some (.int .i64 q)/\W.cell? ⟨wr.heap.size,0,none⟩=some (.int .i64 (x.op:Nat))/\W.cell? ⟨wr.heap.size,1,none⟩=some (.int .i64 x.n)/\W.cell? ⟨wr.heap.size,2,none⟩=some (.int .i64 (jW ins x))/\W.cell? ⟨wr.heap.size,3,none⟩=some (.int .i64 (x.pl:Nat))
theorem JN {b:LB} {ins cap} (hE:Ef w) (h:fz b ins) (hm:k7 w E gi cap (cy b 2) q ins) (h0:0<ins.length) (hn:ins.length<=4000) (hd:q<=24):
 Calls prog 143 #[Pq E] w λe w'=>e= .returned (.bool (iZ ins q ins 0 (iG (cy b 2) ins.length)))/\Bl w w':=by
 have a9:=run_make_row' (P:=prog) 284 285 (.pointer none) 8 underlying284 Ms rfl .i64 .i64 ins.length (by omega) (by omega)
 have p1:w.cell? ⟨E,1,none⟩=some (Sq gi ins.length cap):=by rw[RM w E 1 _ _ _ hm.blk];rfl
 have p2:w.cell? ⟨E,2,none⟩=some (Iq q):=by rw[RM w E 2 _ _ _ hm.blk];rfl
 have aE:=cq hm.blk;have ba:∀o o',((w.alloc o).alloc o').cell? ⟨E,1,none⟩=some (Sq gi ins.length cap):=λo o'=>by
  have hb:Bl w ((w.alloc o).alloc o'):=((RP _ _).alloc (RL _) _).alloc (by simp) _
  rw[hb.cell (p:=⟨E,1,none⟩) aE];exact p1
 have bb:(madeCells #[.pointer none] ins.length)[0]?=some (.pointer none):=by unfold madeCells;simp[h0]
 have HM:=Hi hm;have H:=Hi h;have bc:=Hi hE;clear hm h hE;generalize hR:iZ ins q ins 0 (iG (cy b 2) ins.length)=R;have aO:Hid (Oc w ((w.alloc (.cells ((madeCells #[.pointer none] ins.length).setIfInBounds 0 (Pq (w.heap.size+1))) 285)).alloc (.cells #[.slice none 0 0,.slice none 0 0] 289)) (cy b 2) ins q 0 R):=
  ⟨_,_,JM h0,qv _ _ h0,((RP _ _).alloc (RL _) _).alloc (by simp) _,hR.symm,Da _ _⟩
 clear hR;have HN:Hid (ins.length=ins.length):=rfl;generalize aF:ins.length=n at h0 hn a9 p1 ba bb aO;have HL:=Hi aF;clear aF;go_enter func143,ntmps143;go_wp2;generalize ((w.alloc (.cells ((madeCells #[.pointer none] n).setIfInBounds 0 (Pq (w.heap.size+1))) 285)).alloc (.cells #[.slice none 0 0,.slice none 0 0] 289))=W0 at*;go_loopw [24] (λiv wr=> ∃i:Nat,i<=n/\iv= Iq i/\Hid (Oc w wr (cy b 2) ins q i R)) (λiv _=>n - (intOf iv).toNat)
 case atStart=>exact⟨0,R0 _,rfl,aO.out⟩
 case round=>
  obtain⟨i,hi,rfl,HI⟩:=hrel;obtain⟨O,come,G,an,I,Z,ag⟩:=HI.out;by_cases aE:i<n
  ·have ah:=HM.out.below I;have ac:i<ins.length:=by rw[HL.out];exact aE
   have q0:=ah.op i ac;have q1:=ah.num i ac;have q2:=ah.tos i ac;have q3:=ah.pls i ac;have bs:(0:Int)<=(i:Int)/\(i:Int)<(n:Int):=by omega
   have ae:ins.drop i=ins.getD i cI::ins.drop (i+1):=by
    rw[R5 ac,RG,RI ac];rfl
   rw[ae] at Z;have aB:=H.out.1 _ (iA ac);have aG:=Hi (Mr H.out ac);generalize ins.getD i cI=x at*;cases hk:come.getD i none with
   |none=>
    have af:=G.non i (RL _) (by omega) hk
    have bd:Hid (∀o,Oc w (wr.alloc o) (cy b 2) ins q (i+1) R):=λo=>by
     have ad:Bl wr (wr.alloc o):=(RP _ _).alloc (RL _) _;refine⟨O,come,(G.from (by omega)).below' ad,an,I.trans (ad.mono I.size),?_,ag⟩
     rw[Z,iZ,hk]
    have ai:∀o,(wr.alloc o).cell? ⟨w.heap.size,i,none⟩=some (.pointer none):=λo=>by
     rw[R1 (w:=wr) (a:=⟨w.heap.size,i,none⟩) (RV wr o w.heap.size G.lt)];exact af
    clear G an I Z ag ah ae aB aG HI hk;go_wp2;go_roundw
    case rel=>exact⟨i+1,by omega,by go_num,bd.out _⟩
    case measure=>simp[intOf];omega
   |some k=>
    obtain⟨p,vs,vc,st,c,af,aj,au,hO⟩:=G.som i (RL _) (by omega) k hk
    have ai:∀o,(wr.alloc o).cell? ⟨w.heap.size,i,none⟩=some (Pq p):=λo=>by
     rw[R1 (w:=wr) (a:=⟨w.heap.size,i,none⟩) (RV wr o w.heap.size G.lt)];exact af
    obtain⟨t1,t2,t3,t4⟩:=ag i k hk;have ak:=kD aB;have bf:=fq b 2;have aH:x.op=4\/x.op=5\/x.op=6->0<=x.n/\x.n<=255:=λe=>by
     obtain⟨a1,_,a2⟩:=ak.two (by unfold cE;rw[RH (by omega),RK (by omega)])
     exact⟨a1,a2⟩
    have aI:x.op=5->x.n.toNat<k.cl.length:=λe=>by
     obtain⟨a1,a2,_⟩:=ak.two (by unfold cE;rw[RH (by omega),RK (by omega)])
     unfold dC at a2;rw[RH (by omega),RH (by omega),RH (by omega),RK (by omega)] at a2
     omega
    have av:=C5 au t1 x.op x.n.toNat ak.op aI;obtain⟨U,ao⟩:∃U,wr.alloc (.cells #[Iq (x.op:Nat),Iq x.n,Iq (jW ins x),Iq (x.pl:Nat)] 247)=U:=⟨_,rfl⟩;have ad:Bl wr U:=by rw[<-ao];exact(RP _ _).alloc (RL _) _
    have V:U.heap[wr.heap.size]?=some (oU x.op x.n (jW ins x) (x.pl:Nat)):=by rw[<-ao];exact RO wr _
    have ap:=G.below' ad;have aq:=aj.only (cK.of_below (F:=λ_=>False) ad) (λ_ _ h=>h)
    have Y:Bl w U:=I.trans (ad.mono I.size);have aC:=bc.out;have aJ:=aC.below aC.pos Y;have bq:st.length<=24:=by rw[au.st];simpa [yx] using t4
    have bg:c.length<=256:=by have:=au.len;omega
    have W1:=Fs (w:=U.drew) x.op x.n (jW ins x) (x.pl:Nat) aJ aq.drew (by omega) bg (by have:=ak.op;omega) aH
    have aK:Db E q wr x ins U:=by
     have A:=λj=>RM U _ j _ _ _ V
     exact⟨by rw[Y.cell (p:=⟨E,2,none⟩) (cq HM.out.blk)];exact p2,A 0,A 1,A 2,A 3⟩
    have aP:=Hi ao;have aZ:Cq U w.heap.size i (Pq p):=by rw[<-ao];exact ai _
    unfold fV at W1;rw[iZ,hk] at Z;simp only[] at Z;cases aw:dZ x.op x.n.toNat k with
    |none=>
     rw[aw] at av Z;have am:=av;rw[am] at W1;have ax:Hid (R=false):=Z;have aQ:Hid (∀z,cK (eJ p vs vc) U z->Bl w z):=λz h2=>Y.trans (h2.below Y.size (λb _ hb=>ap.low b (by rw[hO b hb];omega)))
     have KP:Hid (∀z,cK (eJ p vs vc) U z->(Db E q wr x ins z)):=λz h2=>by
      have a0:=(h2.block _ (cq V) (λhf=>by have:=aj.lt hf;omega)).trans V
      have A:=λj=>RM z _ j _ _ _ a0
      exact⟨by rw[(aQ.out z h2).cell (p:=⟨E,2,none⟩) (cq HM.out.blk)];exact p2,A 0,A 1,A 2,A 3⟩
     clear G an I Z ag ah ae aB aG HI hk aj au hO t1 t2 t3 t4 ak aH aI av am ad V ap aq Y aC aJ aw;clear ao;go_wp2;rw[aP.out];refine wp_region_held_drew (S:=λz=>Db E q wr x ins z) (by kernel_rfl) aK (λhHeld=>?_)
     refine wpAnyH_take (i:=0) (v:= .agg #[Iq (x.op:Nat),Iq x.n,Iq (jW ins x),Iq (x.pl:Nat)]) rfl (by kernel_rfl) (by kernel_rfl) (by kernel_rfl) (λ_ _ _ h=>h) (Or.inl ⟨by rfl,λw D=>?_⟩) hHeld ?_
     ·dsimp only at D;obtain⟨s0,s1,s2,s3,s4⟩:=D;go_simp
     simp only[SG,SD,SE,Act.put,Sl,SM,SN];refine wpAnyH_take (i:=1) (v:= Pq p) rfl (by kernel_rfl) (by kernel_rfl) (by kernel_rfl) (λ_ _ _ h=>h) (Or.inl ⟨by rfl,λw D=>?_⟩) hHeld ?_
     ·dsimp only at D;obtain⟨s0,s1,s2,s3,s4⟩:=D;go_simp
     simp only[SG,SD,SE,Act.put,Sl,SM,SN];refine wpAnyH_ready (rs:=[2]) (by kernel_rfl) (by simp) ?_
     refine AllReadyH.cons rfl (λK hK=>?_) AllReadyH.nil
     go_simp;apply W1.mono;rintro e z ⟨rfl,aa⟩;dsimp only;clear hHeld;refine hK.out _ _ (KP.out _ aa.of_drew) (λhHeld=>?_)
     have HU:=Hi (aQ.out z aa.of_drew);clear aa KP hK;refine wpAnyH_take (i:=3) (v:= .bool true) rfl (by kernel_rfl) (by kernel_rfl) (by kernel_rfl) (λ_ _ _ h=>h) (Or.inl ⟨by rfl,λw D=>?_⟩) hHeld ?_
     ·dsimp only at D;obtain⟨s0,s1,s2,s3,s4⟩:=D;go_simp
     simp only[SG,SD,SE,Act.put,Sl,SM,SN];refine wpAnyH_take (i:=4) (v:= .bool true) rfl (by kernel_rfl) (by kernel_rfl) (by kernel_rfl) (λ_ _ _ h=>h) (Or.inl ⟨by rfl,λw D=>?_⟩) hHeld ?_
     ·dsimp only at D;obtain⟨s0,s1,s2,s3,s4⟩:=D;go_simp
     simp only[SG,SD,SE,Act.put,Sl,SM,SN];refine wpAnyH_take (i:=5) (v:=undef) rfl (by kernel_rfl) (by kernel_rfl) (by kernel_rfl) (λ_ _ _ h=>h) (Or.inr ⟨by rfl,rfl⟩) hHeld ?_
     simp only[SG,SD,SE,Act.put,Sl,SM,SN];refine wpAnyH_take (i:=6) (v:=undef) rfl (by kernel_rfl) (by kernel_rfl) (by kernel_rfl) (λ_ _ _ h=>h) (Or.inr ⟨by rfl,rfl⟩) hHeld ?_
     simp only[SG,SD,SE,Act.put,Sl,SM,SN];refine wpAnyH_take (i:=7) (v:=undef) rfl (by kernel_rfl) (by kernel_rfl) (by kernel_rfl) (λ_ _ _ h=>h) (Or.inr ⟨by rfl,rfl⟩) hHeld ?_
     simp only[SG,SD,SE,Act.put,Sl,SM,SN];refine wpAnyH_take (i:=8) (v:=undef) rfl (by kernel_rfl) (by kernel_rfl) (by kernel_rfl) (λ_ _ _ h=>h) (Or.inr ⟨by rfl,rfl⟩) hHeld ?_
     simp only[SG,SD,SE,Act.put,Sl,SM,SN];refine wpAnyH_take (i:=9) (v:=undef) rfl (by kernel_rfl) (by kernel_rfl) (by kernel_rfl) (λ_ _ _ h=>h) (Or.inr ⟨by rfl,rfl⟩) hHeld ?_
     simp only[SG,SD,SE,Act.put,Sl,SM,SN];refine wpAnyH_take (i:=10) (v:=undef) rfl (by kernel_rfl) (by kernel_rfl) (by kernel_rfl) (λ_ _ _ h=>h) (Or.inr ⟨by rfl,rfl⟩) hHeld ?_
     simp only[SG,SD,SE,Act.put,Sl,SM,SN];refine wpAnyH_take (i:=11) (v:=undef) rfl (by kernel_rfl) (by kernel_rfl) (by kernel_rfl) (λ_ _ _ h=>h) (Or.inr ⟨by rfl,rfl⟩) hHeld ?_
     simp only[SG,SD,SE,Act.put,Sl,SM,SN];refine wpAnyH_take (i:=12) (v:=undef) rfl (by kernel_rfl) (by kernel_rfl) (by kernel_rfl) (λ_ _ _ h=>h) (Or.inr ⟨by rfl,rfl⟩) hHeld ?_
     simp only[SG,SD,SE,Act.put,Sl,SM,SN];refine wpAnyH_take (i:=13) (v:=undef) rfl (by kernel_rfl) (by kernel_rfl) (by kernel_rfl) (λ_ _ _ h=>h) (Or.inr ⟨by rfl,rfl⟩) hHeld ?_
     simp only[SG,SD,SE,Act.put,Sl,SM,SN];refine wpAnyH_take (i:=14) (v:= .bool true) rfl (by kernel_rfl) (by kernel_rfl) (by kernel_rfl) (λ_ _ _ h=>h) (Or.inl ⟨by rfl,λw D=>?_⟩) hHeld ?_
     ·dsimp only at D;obtain⟨s0,s1,s2,s3,s4⟩:=D;go_simp
     simp only[SG,SD,SE,Act.put,Sl,SM,SN];refine wpAnyH_done (by kernel_rfl) ?_ _
     go_wp2;go_ret;exact⟨by rw[ax.out];rfl,HU.out⟩
    |some k'=>
     rw[aw] at av Z;obtain⟨st',c',am,ay⟩:=av;rw[am] at W1;simp only[] at Z;obtain⟨y1,y2,y3⟩:=C6 ak.op t1 t2 aw;have aD:Hid (∀z,cV U z p vs vc st' c'-> ∃O' J ab,fG z w.heap.size w.heap.size (i+1) O' come/\fk z p J ab st' c'/\(∀b,eJ p J ab b->O' b=i+1)/\(∀b,z.heap.size<=b->O' b=0)/\Bl w z/\z.heap[wr.heap.size]?=some (oU x.op x.n (jW ins x) (x.pl:Nat))/\z.cell? ⟨E,2,none⟩=some (Iq q)):=λz h2=>by
      obtain⟨O',J,ab,z1,z2,z3,z4,z5⟩:=ap.change hO h2;have aR:=Y.trans z5;exact⟨O',J,ab,z1,z2,z3,z4,aR,(h2.only.block _ (cq V) (λhf=>by have:=aj.lt hf;omega)).trans V,by rw[aR.cell (p:=⟨E,2,none⟩) (cq HM.out.blk)];exact p2⟩
     have aS:st'.length=k'.st.length:=by rw[ay.st];simp[yx]
     have KP:Hid (∀z,cV U z p vs vc st' c'->(Db E q wr x ins z)):=λz h2=>by
      obtain⟨O',J,ab,z1,z2,z3,z4,z5,z6,z7⟩:=aD.out z h2;have A:=λj=>RM z _ j _ _ _ z6
      exact⟨z7,A 0,A 1,A 2,A 3⟩
     have W2:∀W,cV U W p vs vc st' c'->Calls prog 189 #[Pq p] W λe w'=>e= .returned (Iq (k'.st.length:Nat))/\w'=W:=λW h=>by
      obtain⟨J,ab,z2,_,_⟩:=h;rw[<-aS];exact CZ (v:=J) z2.blk rfl z2.st
     clear G I ah ae aB HI hk aj au hO t1 t2 t4 ak aH aI am ad V ap aq Y aC aJ aw;clear ao;have HR:=Hi Z;clear Z;go_wp2;rw[aP.out];go_region_held3 (Db E q wr x ins) (first|with_reducible exact KP.out _ (by assumption)|with_reducible assumption|exact aK)
      (first
       |(go_at_call 188;refine W1.mono ?_;rintro e z ⟨rfl,aa⟩;replace aa:=aa.of_drew)
       |(go_at_call 189;refine(W2 _ (by assumption)).mono ?_;rintro e w3 ⟨rfl,rfl⟩))
     rename_i hHeld;obtain⟨O',J,ab,z1,z2,z3,z4,z5,z6,z7⟩:=aD.out w3 aa;by_cases az:q<k'.st.length
     ·have bh:(q:Int)<(k'.st.length:Int):=by omega
      have ax:Hid (R=false):=HR.out.trans (RK az);have HU:=Hi z5;clear hHeld aa KP aD W1 W2 z1 z2 z3 z4 z5 z6 z7;go_wp2;go_ret;exact⟨by rw[ax.out];rfl,HU.out⟩
     have bh: ¬((q:Int)<(k'.st.length:Int)):=by omega
     have aT:=Hi (HR.out.trans (RH az));have bi:Hid (ki k'.st/\tK k'.cl/\k'.cl.length=cy b 2/\k'.st.length<=24):=⟨y1,y2,by omega,by omega⟩
     obtain⟨s0,s1,s2,s3,s4⟩:=hHeld;have W3:=Ft x.op x.n (jW ins x) (x.pl:Nat) i (by omega) w3
     unfold fV at W3;have aU:Hid (∀w4 v,IR w4 3 v (zJ x.op (jW ins x) i)->Bl w3 w4->(∀b,v.ownBlock=some b->w3.heap.size<=b)->O0 w w4 (cy b 2) ins i p J ab st' c' v (zJ x.op (jW ins x) i) k' come (fb ins i x) 0 O' come):=λw4 v h1 h2 h3=>
      ⟨z1.below' h2,an,z2.only (cK.of_below (F:=λ_=>False) h2) (λ_ _ h=>h),z3,h1,λb hb=>z4 b (h3 b hb),z5.trans (h2.mono z5.size),rfl,ag⟩
     have bj:=Hi ay;clear aa KP aD W1 W2 z1 z2 z3 z4 z5 z6 z7 ay ag an y1 y2 y3 af ai aZ aK az aS;have bt:(zJ x.op (jW ins x) i).length<=2:=by unfold zJ;(repeat' split)<;>simp
     generalize zJ x.op (jW ins x) i=L at*;go_wp2_with (
      go_at_call 190;apply W3.mono;rintro e w4 ⟨⟨v,rfl,aA,aV⟩,aW⟩;obtain⟨la,a8,rfl⟩:=aA.sl;have HJ:=Hi (aU.out w4 _ aA aW aV);clear aA aV aW W3 aU s0 s1 s2 s3 s4)
     go_loopw [54] (λmv wi=> ∃m:Nat,m<=L.length/\mv= Iq m/\Hid (∃O2 ar,O0 w wi (cy b 2) ins i p J ab st' c' (.slice la L.length a8) L k' come (fb ins i x) m O2 ar)) (λmv _=>L.length - (intOf mv).toNat)
     case atStart=>exact⟨0,R0 _,rfl,_,_,HJ.out⟩
     case round=>
      obtain⟨m,hm,rfl,HK⟩:=hrel;obtain⟨O2,ar,hI⟩:=HK.out;obtain⟨g1,g2⟩:=aG.out;by_cases bk:m<L.length
      ·obtain⟨lb,bu,e1,_⟩:=hI.row.form (by omega)
       simp at e1;obtain⟨rfl,rfl⟩:=e1;have bl:=hI.row.cell bk;have W4:=hI.come (cap:=n) bj.out bi.out (by omega) (by omega) (by have:=HL.out;omega) (g2 m (by omega))
       rw[HL.out] at W4;have bv:(0:Int)<=(m:Int)/\(m:Int)<(L.length:Int):=by omega
       clear hI g1 g2 HK HJ;generalize L.getD m 0=y at*;have aX:Hid (m+1<=L.length):=by show _<=_;omega
       go_wp2_with fail;apply W4.mono;rintro e w5 ⟨r,rfl,aL,aM,aN⟩;clear W4 bl;cases r with
       |false=>
        have ax:Hid (R=false):=by
         show R=false;rw[aT.out,aN rfl]
        have bm:=Hi aL;clear aL aM aN;go_wp2;go_ret;exact⟨by rw[ax.out];rfl,bm.out⟩
       |true=>
        have bo:=Hi (aM rfl);clear aL aM aN;go_wp2;go_roundw
        case rel=>exact⟨m+1,aX.out,by go_num,bo.out⟩
        case measure=>have:=aX.out;simp[intOf];omega
      have br:m=L.length:=by omega
      have bp:Hid (Oc w wr (cy b 2) ins q (i+1) R):=by
       refine⟨O2,ar,hI.at_,hI.len,hI.bel,?_,hI.typ⟩;have aY:=hI.bri;rw[R8 (by omega)] at aY
       rw[aT.out,aY];rfl
      clear hI g1 g2 HK HJ;go_wp2;exact⟨⟨i+1,by omega,by go_num,bp.out⟩,by simp[intOf];omega⟩
  have HE:Hid (R=true):=by
   show _=_;rw[Z,R8 (by rw[HL.out];omega)];rfl
  have HB:=Hi I;clear G an I Z ag HI;go_wp2;go_ret;exact⟨by rw[HE.out];rfl,HB.out⟩
def dt (z:Nat):Nat:=if z=1 then 8 else if z=15\/z=16 then 2 else if 2<=z/\z<=6\/z=17\/z=18 then 1 else 0
theorem qb {z:Nat} (h:cE z≠0):cE z=1+dt z:=by
 obtain⟨D,E⟩:=Ay h;have e:z=1\/z=2\/z=3\/z=4\/z=5\/z=6\/z=7\/z=8\/z=9\/z=10\/z=11\/z=12\/z=13\/z=14\/z=15\/z=16\/z=17\/z=18:=by omega
 rcases e with rfl|rfl|rfl|rfl|rfl|rfl|rfl|rfl|rfl|rfl|rfl|rfl|rfl|rfl|rfl|rfl|rfl|rfl<;>rfl
theorem mh (z:Nat):dt z<=8:=by unfold dt;(repeat' split)<;>omega
theorem rB (z:Nat) (w):Calls prog 141 #[Iq z] w λe w'=>e= .returned (Iq (dt z))/\w'=w:=by
 go_enter func141,ntmps141
 go_wp2
 all_goals go_ret
 all_goals refine⟨dh ?_,rfl⟩
 all_goals (simp only[Uh,T4,ne_eq] at*;unfold dt;repeat' split)<;>first|rfl|omega
theorem qJ (z) (n D pl) (w):Calls prog 139 #[fV z n D pl] w λe w'=>e= .returned (Iq (1+dt z:Nat))/\Below w.heap.size w w':=by
 have E:=λw=>rB z w
 have I:=mh z;generalize dt z=f at*;unfold fV;have G:Hid (∀o,Below w.heap.size w (w.alloc o)):=λo=>(RP _ _).alloc (RL _) _
 go_enter func139,ntmps139
 go_wp2_with (
  go_at_call 141
  apply(E _).mono;rintro e w' ⟨rfl,rfl⟩)
 go_ret;refine⟨dh ?_,G.out _⟩
 go_num
theorem zK (z) (n J pl) (w):Calls prog 138 #[fV z n J pl] w λe w'=>e= .returned (.bool (decide (z=15\/z=16)))/\Below w.heap.size w w':=by
 unfold fV;have G:Hid (∀o,Below w.heap.size w (w.alloc o)):=λo=>(RP _ _).alloc (RL _) _
 by_cases D:z=16
 ·subst D
  go_enter func138,ntmps138
  go_wp2
  go_ret;exact⟨rfl,G.out _⟩
 ·by_cases E:z=15
  ·subst E
   go_enter func138,ntmps138
   go_wp2
   go_ret;exact⟨rfl,G.out _⟩
  ·have I:decide (z=15\/z=16)=false:=by simp[E,D]
   rw[I];have O:((z:Int)==16)=false:=by simp;omega
   have R:((z:Int)==15)=false:=by simp;omega
   go_enter func138,ntmps138
   go_wp2
   go_ret;exact⟨rfl,G.out _⟩
theorem rZ (l) (i) (h:i<(ByteArray.mk l.toArray).size):((ByteArray.mk l.toArray)[i]).toNat=cy l i:=by
 have z:=h
 show(l.toArray[i]).toNat=_
 unfold cy;rw[RG,RI z];rfl
theorem Od {V c:Nat} (U:V<72057594037927936) (Y:c<256):bits .or .i64 (IntKind.i64.wrap (V*2^8)) c=fg (V*256+c):=by
 unfold bits;simp only[];have J:(BitVec.ofInt IntKind.i64.bits (IntKind.i64.wrap ((V:Int)*2^8))).toNat=V*256:=by
  rw[BitVec.toNat_ofInt,Ss];simp only[IntKind.bits];omega
 have O:(BitVec.ofInt IntKind.i64.bits (c:Int)).toNat=c:=by rw[BitVec.toNat_ofInt];simp only[IntKind.bits];omega
 have R:V*256|||c=V*256+c:=by
  have:=Nat.shiftLeft_add_eq_or_of_lt (i:=8) (b:=c) (by omega) V
  rw[Nat.shiftLeft_eq] at this;exact this.symm
 rw[BitVec.toNat_or,J,O,R,Ss];unfold fg
 split<;>omega
theorem Dc (l) (hl:l.length<=8) (w):Calls prog 185 #[S l] w λe w'=>e= .returned (Iq (fg (eO l 0 l.length)))/\w'=w:=by
 have Y:Hid (∀k,k<l.length->eO l 0 k<72057594037927936/\eO l 0 (k+1)=eO l 0 k*256+cy l k):=λk Z=>by
  refine⟨?_,by rw[eO,Sw]⟩
  have I:=pS l 0 k;have E:256^k<=256^7:=TU (by decide) (by omega)
  omega
 go_enter func185,ntmps185;go_wp2
 go_loop [3,7] (λnv G=> ∃k:Nat,k<=l.length/\G= Iq k/\nv= Iq (fg (eO l 0 k))) (λ_ G=>l.length - (intOf G).toNat)
 case atStart=>exact⟨0,R0 _,rfl,rfl⟩
 case round=>
  obtain⟨k,Z,rfl,rfl⟩:=hrel
  by_cases z:k<l.length
  ·obtain⟨I,E⟩:=Y.out k z
   have J:fg (eO l 0 k)=(eO l 0 k:Nat):=by unfold fg;rw[RK (by omega)]
   have O:=z;have D:=rZ l k O;have hc:=fq l k;have R:=Hi (Od I hc);have aa:=D;have HN:Hid (fg (eO l 0 (k+1))=fg (eO l 0 k*256+cy l k)):=by show _=_;rw[E]
   rw[J];generalize eO l 0 k=V at*;generalize cy l k=q at*
   go_wp2
   refine⟨⟨k+1,by omega,by go_num,?_⟩,by simp[intOf];omega⟩
   rw[HN.out,<-R.out]
   congr 2
   all_goals first|rfl|(simp[Ss,RowKit.wrap64])
  ·have U:k=l.length:=by omega
   subst U
   go_wp2
   go_ret;exact⟨rfl,rfl⟩
end
end Go.Proofs.YtfkdailfcmnjlaaGreatDoor
