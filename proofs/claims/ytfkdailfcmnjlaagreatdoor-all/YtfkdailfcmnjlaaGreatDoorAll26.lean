/-
  A part.
-/
import Derived.Test.YtfkdailfcmnjlaaGreatDoorAll25
import Derived.WalkSmall
set_option linter.all false
set_option maxHeartbeats 40000000
set_option maxRecDepth 1000000
namespace Go.Proofs.YtfkdailfcmnjlaaGreatDoor
open Go Go.RowKit Tryz
attribute [local go_sem ↓] Go.wp_at_zero Go.wp_at_succ
variable {F G a b p o B w v l g n k e w' ty cs z x j r vs st c I J D E c2}
structure cI (F:Nat->Prop) (w w':World):Prop where
 os:w'.os=w.os
 tape:w'.tape=w.tape
 output:w'.output=w.output
 size:w.heap.size<=w'.heap.size
 block:∀k,k<w.heap.size-> ¬F k->w'.heap[k]?=w.heap[k]?
theorem cI.refl (F:Nat->Prop) (w:World):cI F w w:=⟨rfl,rfl,rfl,Qn _,λ_ _ _=>rfl⟩
theorem cI.trans {F G H a b c} (h:cI F a b) (k:cI G b c) (E:∀i,i<a.heap.size->F i->H i) (I:∀i,i<a.heap.size->G i->H i):cI H a c:=
 ⟨k.os.trans h.os,k.tape.trans h.tape,k.output.trans h.output,QV h.size k.size,λi z D=>(k.block i (Rh z h.size) (λg=>D (I i z g))).trans (h.block i z (λf=>D (E i z f)))⟩
theorem cI.weak (h:cI F a b) (D:∀i,i<a.heap.size->F i->G i):cI G a b:=
 ⟨h.os,h.tape,h.output,h.size,λi z E=>h.block i z (λf=>E (D i z f))⟩
theorem cI.drew (h:cI F a b):cI F a b.drew:=⟨h.os,h.tape,h.output,h.size,h.block⟩
theorem cI.of_drew (h:cI F a.drew b):cI F a b:=⟨h.os,h.tape,h.output,h.size,h.block⟩
theorem cI.alloc (h:cI F a b) (o):cI F a (b.alloc o):=
 ⟨h.os,h.tape,h.output,by have:=h.size;simp;omega,λi z D=>(Qu b o i (Rh z h.size)).trans (h.block i z D)⟩
theorem cI.setCell (h:cI F a b) (z:F p\/a.heap.size<=p) (v):cI F a (b.setCell ⟨p,o,none⟩ v):=
 ⟨h.os,h.tape,h.output,by simpa using h.size,λi E D=>(Qr _ _ _ _ (by
  intro e;simp only[] at e;subst e;rcases z with z|z
  ·exact D z
  omega)).trans (h.block i E D)⟩
theorem cI.grown {F a b c} (h:cI F a b) {row} (z:b.grownBy c row) (I:∀k,row=some k->F k\/a.heap.size<=k):cI F a c:=
 ⟨z.os.trans h.os,z.tape.trans h.tape,z.output.trans h.output,QV h.size z.size,λi D E=>(z.block i (Rh D h.size) (λe=>by
  rcases I i e.symm with G|G
  ·exact E G
  omega)).trans (h.block i D E)⟩
theorem cI.below (h:cI F a b) (D:B<=a.heap.size) (z:∀k,k<a.heap.size->F k->B<=k):Below B a b:=
 ⟨h.os,h.tape,h.output,h.size,λi E=>h.block i (by omega) (λf=>by have:=z i (by omega) f;omega)⟩
theorem cI.of_below (h:Bl a b):cI F a b:=⟨h.os,h.tape,h.output,h.size,λi z _=>h.block i z⟩
def IR (w:World) (e:TypeId) (v:Value) (l:List Int):Prop:=w.ownsRow 0 e 1 v l.length (l.map (Value.int .i64))
theorem IR.nil (w:World) (e:TypeId):IR w e (.slice none 0 0) []:=QX _ _ _ _
theorem IR.sl {e:TypeId} (h:IR w e v l):∃a cap,v= .slice a l.length cap:=by
 obtain⟨E,h⟩:=h;rcases h with⟨rfl,z⟩|⟨g,cap,D,rfl,G,I,J,O,h3,R⟩
 ·exact⟨none,0,by rw[z]⟩
 exact⟨_,_,rfl⟩
theorem IR.form {w} {e:TypeId} {v l} (h:IR w e v l) (D:0<l.length):∃g cap,v= Sq g l.length cap/\g<w.heap.size:=by
 obtain⟨g,cap,e,_,z⟩:=World.ownsRow.form h D;exact⟨g,cap,e,z⟩
theorem IR.cap {e:TypeId} {cap} (h:IR w e (Sq g n cap) l):l.length<=cap:=by
 obtain⟨_,h⟩:=h;rcases h with⟨h,_⟩|⟨E,z,D,h,G,I,h3,_⟩
 ·simp at h
 simp only[QK,QE,RL,SC,R8] at h;omega
theorem IR.cell {e:TypeId} {cap} (h:IR w e (Sq g n cap) l) (z:k<l.length):w.cell? ⟨g,k,none⟩=some (Iq (l.getD k 0)):=by
 have D:n=l.length:=by obtain⟨a,c,e⟩:=h.sl;simp at e;exact e.2.1
 subst D;rw[Rs h k (by omega)]
 simp[Qi,Ql z]
theorem IR.frz {cap} (h:IR w e (Sq g n cap) l) (k:Nat):w.frozen? ⟨g,k,none⟩=false:=by
 have z:n=l.length:=by obtain⟨a,c,e⟩:=h.sl;simp at e;exact e.2.1
 subst z;exact World.ownsRow.frozenAt h k
theorem IR.only (h:IR w e v l) (D:cI F w w') (E:∀g,v.ownBlock=some g-> ¬F g):IR w' e v l:=
 cM h (λk z=>D.block k (h.lt k z).2 (E k z))
theorem IR.ne (h:IR w e v l) (G:w.heap[p]?=some (.cells cs ty z)) (E:ty≠e):v.ownBlock≠some p:=λI=>by
 obtain⟨J,D⟩:=cK h I;rw[G] at D;simp at D;exact E D.2.1
theorem IR.pop {e:TypeId} {cap} (h:IR w e (Sq g (l.length+1) cap) (l++[x])):IR w e (Sq g l.length cap) l:=by
 unfold IR at*;rw[Qt,QU] at h;exact ownsRow_pop (by simp) h
theorem IR.set {cap} (h:IR w e (Sq g l.length cap) l) (R:j<l.length) (u:Int):IR (w.setCell ⟨g,j,none⟩ (Iq u)) e (Sq g l.length cap) (l.set j u):=by
 obtain⟨U,h⟩:=h;refine⟨by simp,?_⟩
 rcases h with⟨h,_⟩|⟨V,D,z,h,E,G,h3,I,J,O⟩
 ·simp at h
 simp only[QK,QE,RL,SC,R8] at h;obtain⟨rfl,rfl⟩:=h;refine .inr ⟨g,cap,z.setIfInBounds j (Iq u),by simp,E,QB w g j _ _ _ G,by simpa using h3,I,by simpa using J,?_⟩
 rw[TI,<-O];simp[TO]
theorem rr:(prog.info? 220).map (λi=>(i.zero,i.size,i.bytes))=some (some (Iq 0),1,8):=by kernel_rfl
theorem Hs (x) (G:w.heap[p]?=some (.cells cs ty (0,0))) (Y:cs[0]?=some v) (I:IR w 220 v l) (Z:ty≠220) (hl:l.length<=5000):
 Calls prog 231 #[Pq p,Iq x] w λe w'=>e= .returned (.tuple #[])/\ ∃U,w'.heap[p]?=some (.cells (cs.setIfInBounds 0 U) ty (0,0))/\IR w' 220 U (l++[x])/\cI (λb=>b=p\/v.ownBlock=some b) w w'/\ ∀b,U.ownBlock=some b->v.ownBlock=some b\/w.heap.size<=b:=by
 have aa:w.cell? ⟨p,0,none⟩=some v:=by rw[Qm w p 0 _ _ _ G];exact Y
 have ab:w.frozen? ⟨p,0,none⟩=false:=by simp[World.frozen?,G]
 have ac:=be G;have O:=I.ne G Z;obtain⟨a,cap,rfl⟩:=I.sl;obtain⟨i0,hi,hz⟩:=QP.1 rr;simp only[QS] at hz;obtain⟨ad,ae,af⟩:=hz;have HP:=Hi G;have HR:=Hi I;have HN:=Hi O;go_enter func231,ntmps231;go_wp2_with (
  at_builtin;go_must (refine wpList_append_lies _ (by rfl) _ _ 219 (by rfl) 0 220 i0 (Iq 0) 1 8 underlying219 hi ad ae af (by rfl) (by decide) _ _ _ (by rfl) (HR.out.alloc _) ⟨w.heap.size,0,none⟩ 1 1 [Iq x] (by rfl) (by rfl) (World.news_of_block (Qp w _)) (λx hx=>by simp at hx;rcases hx with rfl;rfl) (by decide) (by unfold maxLen;omega) (by omega) (by simp) _ rfl ?_)
  intro gg D V E z R aj;have J:=(z.block _ (by simp;omega) (λe=>HN.out e.symm)).trans (Qu w _ _ ac)
  have e1:=(Qz J).trans aa;have e2:=(Re J).trans ab;have ag:=Hi J;have ah:=Hi E;have ai:=Hi z;clear J E z)
 go_end0;refine⟨rfl,Sq gg (l.length+1) D,?_,?_,?_,?_⟩
 ·rw[QB V p 0 _ _ _ (ag.out.trans HP.out)]
 ·have h1:V.ownsRow 0 220 1 (Sq gg (l.length+1) D) (l.length+1) (l.map (Value.int .i64)++[Iq x]):=ah.out;have h2:=Rg h1 (a:=⟨p,0,none⟩) (by
   intro e;simp[Value.ownBlock] at e;rcases R with h|h
   ·exact HN.out (by rw[h,e])
   rw[Qw] at h;omega) (Sq gg (l.length+1) D)
  unfold IR;simpa using h2
 ·exact(((cI.refl _ w).alloc _).grown ai.out (λk hk=> .inl (.inr hk))).setCell (.inl (.inl rfl)) _
 intro b hb;simp[Value.ownBlock] at hb;subst hb;rcases R with h|h
 ·exact .inl h
 right;rw[h,Qw];omega
theorem BP {e:TypeId} {cap} (h:IR w e (Sq g n cap) (r++[x])):n=r.length+1/\w.cell? ⟨g,r.length,none⟩=some (Iq x):=by
 refine⟨?_,?_⟩
 ·obtain⟨a,c,e⟩:=h.sl;simp at e;exact e.2.1
 rw[h.cell (by simp)];simp
theorem KQ (E:w.heap[p]?=some (.cells cs ty (0,0))) (I:cs[0]?=some v) (z:IR w 220 v l) (O:ty≠220) (V:l.length<=5000):
 Calls prog 232 #[Pq p] w λe w'=>e= .returned (Iq (l.getLast?.getD 0))/\ ∃G,w'.heap[p]?=some (.cells (cs.setIfInBounds 0 G) ty (0,0))/\IR w' 220 G l.dropLast/\cI (λb=>b=p) w w'/\G.ownBlock=v.ownBlock:=by
 have R:w.cell? ⟨p,0,none⟩=some v:=by rw[Qm w p 0 _ _ _ E];exact I
 have aa:w.frozen? ⟨p,0,none⟩=false:=by simp[World.frozen?,E]
 have D:=z.ne E O;rcases List.eq_nil_or_concat l with rfl|⟨r,x,rfl⟩
 ·have Y:Hid (∃G,w.heap[p]?=some (.cells (cs.setIfInBounds 0 G) ty (0,0))/\IR w 220 G ([]).dropLast/\cI (λb=>b=p) w w/\G.ownBlock=v.ownBlock):=⟨v,by
   rw[E];congr 2;apply Array.ext_getElem?;intro i;rw[Rk];split
   ·rename_i e;subst e;split
    ·exact I
    rename_i hh;rw[RY (by omega)]
   rfl,z,cI.refl _ _,rfl⟩
  obtain⟨a,cap,rfl⟩:=z.sl;simp only[Q7] at*;go_enter func232,ntmps232;go_wp2;go_ret;exact⟨rfl,Y.out⟩
 rw[List.concat_eq_append] at*;obtain⟨g,cap,rfl,hg⟩:=z.form (by simp)
 obtain⟨_,hx⟩:=BP z;have U:(r++[x]).length=r.length+1:=by simp
 rw[U] at R z D V;have J:=z.cap;rw[U] at J;have q2:0<=r.length/\r.length<=cap:=by omega
 have Z:=Hi E;have HR:=Hi z;have e2:(r++[x]).getLast?.getD 0=x:=by simp
 have e3:(r++[x]).dropLast=r:=by simp
 have ab:g≠p:=λe=>D (by rw[e];rfl)
 have q1:0<=r.length/\r.length<r.length+1:=by omega
 rw[e2,e3];go_enter func232,ntmps232;go_wp2;go_ret;refine⟨rfl,Sq g r.length cap,?_,?_,(cI.refl (λb=>b=p) w).setCell (.inl rfl) _,rfl⟩
 ·rw[QB w p 0 _ _ _ Z.out]
 exact(IR.pop HR.out).only ((cI.refl (λb=>b=p) _).setCell (.inl rfl) _) (λk hk=>by simp[Value.ownBlock] at hk;omega)
theorem BQ (z:w.heap[p]?=some (.cells cs ty (0,0))) (D:cs[0]?=some v) (E:IR w 220 v l):
 Calls prog 189 #[Pq p] w λe w'=>e= .returned (Iq l.length)/\w'=w:=by
 have G:w.cell? ⟨p,0,none⟩=some v:=by rw[Qm w p 0 _ _ _ z];exact D
 obtain⟨a,cap,rfl⟩:=E.sl;go_enter func189,ntmps189;go_wp2;go_ret;exact⟨rfl,rfl⟩
structure eQ (w:World) (p:Nat) (vs vc) (st c:List Int):Prop where
 blk:w.heap[p]?=some (.cells #[vs,vc] 289 (0,0))
 st:IR w 220 vs st
 cl:IR w 220 vc c
 ne:∀b,vs.ownBlock=some b->vc.ownBlock≠some b
def eF (p:Nat) (vs D:Value) (b:Nat):Prop:=b=p\/vs.ownBlock=some b\/D.ownBlock=some b
theorem eQ.lt {w p vs D st c} (h:eQ w p vs D st c) {b} (z:eF p vs D b):b<w.heap.size:=by
 rcases z with rfl|z|z
 ·exact be h.blk
 ·exact(h.st.lt b z).2
 ·exact(h.cl.lt b z).2
theorem eQ.only {w w' p vs z st c} (h:eQ w p vs z st c) {F} (D:cI F w w') (E:∀b,eF p vs z b-> ¬F b):eQ w' p vs z st c:=
 ⟨(D.block p (be h.blk) (E p (.inl rfl))).trans h.blk,h.st.only D (λg G=>E g (.inr (.inl G))),h.cl.only D (λg G=>E g (.inr (.inr G))),h.ne⟩
theorem eQ.drew {p:Nat} (h:eQ w p vs z st c):eQ w.drew p vs z st c:=⟨h.blk,h.st,h.cl,h.ne⟩
def cW (w w':World) (p:Nat) (vs I:Value) (st c:List Int):Prop:=
 ∃D E,eQ w' p D E st c/\cI (eF p vs I) w w'/\ ∀b,eF p D E b->eF p vs I b\/w.heap.size<=b
theorem cW.refl {w} {p:Nat} {vs z st c} (h:eQ w p vs z st c):cW w w p vs z st c:=⟨vs,z,h,cI.refl _ _,λ_ D=> .inl D⟩
theorem cW.then (O:cI (eF p vs G) w I) (R:∀b,eF p z D b->eF p vs G b\/w.heap.size<=b) (h2:cW I J p z D E c2):cW w J p vs G E c2:=by
 obtain⟨U,V,hs,Y,Z⟩:=h2;refine⟨U,V,hs,O.trans Y (λ_ _ h=>h) (λi hi h=>?_),λb hb=>?_⟩
 ·rcases R i h with h|h
  ·exact h
  ·omega
 ·rcases Z b hb with h|h
  ·exact R b h
  ·right;have:=O.size;omega
theorem sx:289≠220:=by decide
theorem yL (x) (h:eQ w p vs E st c) (V:st.length<=5000):
 Calls prog 231 #[Pq p,Iq x] w λe w'=>e= .returned (.tuple #[])/\cW w w' p vs E (st++[x]) c:=by
 apply(Hs x h.blk (v:=vs) rfl h.st sx V).mono;rintro e w' ⟨rfl,Y,z,D,I,J⟩;have O:=h.cl.ne h.blk sx;refine⟨rfl,Y,E,⟨z,D,h.cl.only I (λg R G=>?_),λb Z U=>?_⟩,I.weak (λi _ D=>?_),λb z=>?_⟩
 ·rcases G with rfl|G
  ·exact O R
  ·exact h.ne g G R
 ·rcases J b Z with h3|h3
  ·exact h.ne b h3 U
  ·have:=(h.cl.lt b U).2;omega
 ·rcases D with rfl|D
  ·exact .inl rfl
  ·exact .inr (.inl D)
 ·rcases z with rfl|z|z
  ·exact .inl (.inl rfl)
  ·rcases J b z with h3|h3
   ·exact .inl (.inr (.inl h3))
   ·exact .inr h3
  ·exact .inl (.inr (.inr z))
theorem BS {p:Nat} (h:eQ w p vs D st c) (R:st.length<=5000):
 Calls prog 232 #[Pq p] w λe w'=>e= .returned (Iq (st.getLast?.getD 0))/\cW w w' p vs D st.dropLast c:=by
 apply(KQ h.blk (v:=vs) rfl h.st sx R).mono;rintro e w' ⟨rfl,U,z,E,G,I⟩;have J:=h.cl.ne h.blk sx;refine⟨rfl,U,D,⟨z,E,h.cl.only G (λg V Y=>?_),λb O Z=>?_⟩,G.weak (λi _ E=> .inl E),λb z=>?_⟩
 ·subst Y;exact J V
 ·rw[I] at O;exact h.ne b O Z
 ·unfold eF at z⊢
  rw[I] at z;exact .inl z
theorem Fv (k:Nat) (h:eQ w p vs z st c):
 Calls prog 234 #[Pq p,Iq k] w λe w'=>e= .returned (Iq (c.getD k 0))/\w'=w:=by
 have E:w.cell? ⟨p,1,none⟩=some z:=by rw[Qm w p 1 _ _ _ h.blk];rfl
 by_cases D:k<c.length
 ·obtain⟨g,cap,rfl,G⟩:=h.cl.form (by omega)
  have I:=h.cl.cell D;generalize c.getD k 0=x at*;go_enter func234,ntmps234
  go_wp2
  go_ret;exact⟨rfl,rfl⟩
 ·obtain⟨a,cap,rfl⟩:=h.cl.sl
  have e:c.getD k 0=0:=by rw[Qi,QC (by omega)];rfl
  rw[e];go_enter func234,ntmps234
  go_wp2
  go_ret;exact⟨rfl,rfl⟩
def kH (c:List Int) (k:Nat) (x:Int):List Int:=(c++List.replicate (k+1 - c.length) 0).set k x
end Go.Proofs.YtfkdailfcmnjlaaGreatDoor
