/-
  A part.
-/
import Derived.Test.YtfkdailfcmnjlaaGreatDoorAll10
import Derived.Test.YtfkdailfcmnjlaaGreatDoorAll12
set_option linter.all false
set_option maxHeartbeats 40000000
set_option maxRecDepth 1000000
namespace Go.Proofs.YtfkdailfcmnjlaaGreatDoor
open Go Go.RowKit Tryz
variable {vals c v xs fl t L f J i a}
def nH (xs:List dw) (vals fl:List Int) (t:Tok):Int:=
 if t.k=110 then dW t.text else if t.k=111 then vals.getD (cX xs t.text vals.length).toNat 0
 else if 0<=dx dC t.text then fl.getD (dx dC t.text).toNat 0 else if 0<=dx dy t.text then dx dy t.text else cT (t.text==mG)
def vM (s:List UInt8) (w:Int):List Int->Int
 |[]=>w
 |[a]=>1 - a
 |[a,b]=>od s a b
 |a::b::c::_=>if a=1 then b else c
def fP (xs:List dw) (vals fl:List Int) (L:List Pt):Nat->Nat->Int
 |0,_=>0
 |f+1,k=>vM (L.getD k cz).tok.text (nH xs vals fl (L.getD k cz).tok) ((L.getD k cz).subs.map (fP xs vals fl L f))
def LL (c:UInt8) (v:Int):Prop:=dn v/\(c=116->v=0\/v=1)
theorem jr (c:UInt8) (b):LL c (cT b):=by
 unfold cT LL dn;cases b<;>simp
def PV:List UInt8:=[110,110,110,110,109,109,109,116,116]
structure fy (fl:List Int):Prop where
 len:fl.length=9
 has:∀i,i<9->LL (PV.getD i 0) (fl.getD i 0)
structure mq (its:List UInt8) (vals:List Int):Prop where
 len:vals.length=its.length
 has:∀i,i<its.length->LL (its.getD i 0) (vals.getD i 0)
theorem mq.snoc {its:LB} (h:mq its vals) (D:LL c v):mq (its++[c]) (vals++[v]):=by
 refine⟨by simp[h.len],λi E=>?_⟩
 have G:=h.len;rcases Rq i its.length with z|z
 ·have:=h.has i z;rw[Qi,Qi] at this⊢;rw[QT (by omega),QT (by omega)];exact this
 have e:i=its.length:=by simp at E;omega
 subst e;rw[Qi,Qi,QQ (by omega),QQ (by omega),G]
 simpa using D
theorem Mf (s:LB) {a b:Int} (c) (h:s=[43]\/s=[45]->c≠116):LL c (od s a b):=by
 unfold od;by_cases z:s=[43]
 ·rw[Qo z];exact⟨nB _,λe=>absurd e (h (.inl z))⟩
 rw[Qj z];by_cases D:s=[45]
 ·rw[Qo D];exact⟨nB _,λe=>absurd e (h (.inr D))⟩
 rw[Qj D];split
 ·exact jr _ _
 split
 ·exact jr _ _
 split
 ·exact jr _ _
 split
 ·exact jr _ _
 exact jr _ _
theorem Dq (x:LB) (h:0<=dx dC x):∃n:Nat,dx dC x=n/\n<9:=by
 have:=vy dC x;have e:dC.length=9:=rfl;exact⟨(dx dC x).toNat,by omega,by omega⟩
theorem Bm (x:LB) (h:0<=dx dy x):dx dy x<5:=by
 have:=vy dy x;have e:dy.length=5:=rfl;omega
theorem Mg (x:LB) (h:x=[43]\/x=[45]) (s:LB):yy x s≠116:=by
 have e:yy x s=UInt8.ofNat (if s=[110,110] then 110 else 0):=by
  rcases h with rfl|rfl<;>rfl
 rw[e];split<;>decide
theorem J1 (s:LB) (h:yy km s≠0):s=[116]:=by
 have e:yy km s=UInt8.ofNat (if s=[116] then 116 else 0):=rfl;rw[e] at h;by_cases z:s=[116]
 ·exact z
 rw[Qj z] at h;exact absurd rfl h
theorem Pc {a b c:UInt8} (h:yy oI [a,b,c]≠0):a=116/\b=c/\yy oI [a,b,c]=b:=by
 have e:yy oI [a,b,c]=UInt8.ofNat (if a.toNat=116/\b.toNat=c.toNat then b.toNat else 0):=rfl;rw[e] at h;by_cases z:a.toNat=116/\b.toNat=c.toNat
 ·refine⟨RD.1 z.1,RD.1 z.2,?_⟩;rw[e,Qo z,Sa]
 rw[Qj z] at h;exact absurd rfl h
theorem J2 {its:LB} (G:mq its vals) (J:fy fl) (U:eH t=true) (O:t.k=110->dW t.text<=9223372036854775807)
 (R:t.k=111->0<=cX xs t.text its.length):LL (UInt8.ofNat (eX xs its t [])) (nH xs vals fl t):=by
 unfold nH eX;by_cases D:t.k=110
 ·rw[Qo D,Qo D];have:=O D;exact⟨by unfold dn;omega,λe=>absurd e (by decide)⟩
 rw[Qj D,Qj D];by_cases E:t.k=111
 ·rw[Qo E,Qo E,G.len];have h3:=R E;have z:=(rF xs t.text its.length).1;rw[Sa];exact G.has _ (by omega)
 rw[Qj E,Qj E];by_cases h3:0<=dx dC t.text
 ·rw[Qo h3,Qo h3];obtain⟨n,e,I⟩:=Dq _ h3;rw[e,Rr,Sa];exact J.has n I
 rw[Qj h3,Qj h3];by_cases z:0<=dx dy t.text
 ·rw[Qo z,Qo z];have:=Bm _ z;exact⟨by unfold dn;omega,λe=>absurd e (by decide)⟩
 rw[Qj z,Qj z];exact jr _ _
theorem pd {its:LB} (hV:mq its vals) (hF:fy fl) (hN:∀k,k<L.length->(L.getD k cz).tok.k=110->dW (L.getD k cz).tok.text<=9223372036854775807) (f):
 ∀{J i},dN f L J i->nF xs its.length L J (i+1)->dk xs its L f i≠0->LL (dk xs its L f i) (fP xs vals fl L f i):=by
 induction f with
 |zero=>intro J i h;exact h.elim
 |succ f ih=>
  intro J i h Z z;rw[fP];rw[dk] at z⊢;by_cases U:((L.getD i cz).subs.map (dk xs its L f)).contains 0=true
  ·rw[Qo U] at z;exact absurd rfl z
  rw[Qj U] at z⊢;have E:∀j∈(L.getD i cz).subs,LL (dk xs its L f j) (fP xs vals fl L f j):=λj O=>by
   obtain⟨ad,a,b,c⟩:=fY _ h.2.2 j O;refine ih c (λq V G=>Z q (by omega) (by omega)) λe=>U ?_
   rw[QJ,<-e];exact RB O
  rcases h.2.1 with⟨ha,hs⟩|⟨Y,I⟩|⟨Y,I⟩|⟨n,_,O,I⟩
  ·rw[hs];exact J2 hV hF ha (hN i h.1) λho=>(Z i h.le (by omega) ho).2
  ·obtain⟨e,hk⟩:=gX Y;obtain⟨a,D⟩:∃a,(L.getD i cz).subs=[a]:=Sr.1 I;rw[oY xs its (by omega) (by omega),e,D] at z⊢
   have V:=E a (by rw[D];simp)
   have G:=J1 _ z;simp only[QL,Q9,Sv,SC] at G;have h3:=V.2 G;simp only[QL,Q9,vM];refine⟨?_,λ_=>?_⟩
   ·unfold dn;omega
   omega
  ·obtain⟨e,hk⟩:=gX Y;obtain⟨a,b,c,D⟩:∃a b c,(L.getD i cz).subs=[a,b,c]:=sX I;rw[oY xs its (by omega) (by omega),e,D] at z⊢
   simp only[QL,Q9] at z⊢;obtain⟨V,G,h3⟩:=Pc z;rw[h3];simp only[vM];split
   ·exact E b (by rw[D];simp)
   rw[G];exact E c (by rw[D];simp)
  obtain⟨e,hk⟩:=mi O;obtain⟨a,b,D⟩:∃a b,(L.getD i cz).subs=[a,b]:=zu I;rw[oY xs its (by omega) (by omega),D]
  simp only[QL,Q9,vM];exact Mf _ _ λh=>Mg _ h _
theorem GD {its:LB} (Y:mq its vals) (Z:fy fl) (hN:∀k,k<L.length->(L.getD k cz).tok.k=110->dW (L.getD k cz).tok.text<=9223372036854775807) (h:dN (f+1) L J i) (hg:nF xs its.length L J (i+1)) (z:dk xs its L (f+1) i≠0) (D:(L.getD i cz).subs=[a]):
 fP xs vals fl L f a=0\/fP xs vals fl L f a=1:=by
 rw[dk] at z;by_cases I:((L.getD i cz).subs.map (dk xs its L f)).contains 0=true
 ·rw[Qo I] at z;exact absurd rfl z
 rw[Qj I] at z;obtain⟨aa,h1,G,h3⟩:=fY _ h.2.2 a (by rw[D];simp)
 have hh:=pd Y Z hN f h3 (λq h1 G=>hg q (by omega) (by omega)) λe=>I (by rw[QJ,<-e];exact RB (by rw[D];simp))
 rcases h.2.1 with⟨_,O⟩|⟨hw,E⟩|⟨_,E⟩|⟨n,_,_,E⟩
 ·rw[D] at O;simp at O
 ·obtain⟨e,hk⟩:=gX hw;rw[oY xs its (by omega) (by omega),e,D] at z
  have G:=J1 _ z;simp only[QL,Q9,Sv,SC] at G;exact hh.2 G
 ·rw[D] at E;simp at E
 rw[D] at E;simp at E
section
attribute [local go_sem ↓] Go.wp_at_zero Go.wp_at_succ
variable {w w' lv D E G x b}
def dc (v:Value) (z:List (List UInt8×Int)) (w:World):Prop:=
 z.length<=maxLen/\ ∃a cap,v= .slice a z.length cap/\ ∀i,i<z.length-> ∃b o,a=some ⟨b,o,none⟩/\w.cell? ⟨b,o+i*2,none⟩=some (S (z.getD i ([],0)).1)/\w.cell? ⟨b,o+i*2+1,none⟩=some (Iq (z.getD i ([],0)).2)/\dn (z.getD i ([],0)).2
theorem dc.below {v:Value} {z:List (LB×Int)} (h:dc v z w) (D:Bl w w'):dc v z w':=by
 obtain⟨E,a,cap,G,I⟩:=h;refine⟨E,a,cap,G,λi J=>?_⟩
 obtain⟨b,o,e,c0,c1,O⟩:=I i J;refine⟨b,o,e,?_,?_,O⟩
 ·rw[D.cell (Qk w _ c0)];exact c0
 rw[D.cell (Qk w _ c1)];exact c1
def dQ (D:Int) (I:List (List UInt8×Int)) (u:List UInt8):Int:=match I with
 |[]=>D
 |x::r=>if x.1==u then x.2 else dQ D r u
theorem vN (D:Int) (z:List (LB×Int)) (u:LB) (i) (h:i<z.length):dQ D (z.drop i) u=if(z.getD i ([],0)).1==u then(z.getD i ([],0)).2 else dQ D (z.drop (i+1)) u:=by
 rw[QF h,dQ,Qi,Ql h];rfl
theorem GF {mv} {z:List (LB×Int)} (u:LB) (w) (h:dc lv z w):
 Calls prog 83 #[.agg #[lv,Iq D,mv,.bool E],S u] w λe w'=>e= .returned (Iq (dQ D z u))/\Bl w w':=by
 obtain⟨hm,a,cap,rfl,U⟩:=h;unfold maxLen at hm;have V:=(Qq w.heap.size w).alloc (Qn _) (.cells #[.slice a z.length cap,Iq D,mv,.bool E] 50);have G:(w.alloc (.cells #[.slice a z.length cap,Iq D,mv,.bool E] 50)).heap[w.heap.size]?=some (.cells #[.slice a z.length cap,Iq D,mv,.bool E] 50 (0,0)):=Qp w _;have Y:=Hi (And.intro V G);have HC:=Hi U;go_enter func83,ntmps83;go_wp2_with fail;obtain⟨I,Z⟩:=Y.out;generalize aa:w.alloc (.cells #[.slice a z.length cap,Iq D,mv,.bool E] 50)=R at*;have q0:=Qm R w.heap.size 0 _ _ _ Z;simp only[Qx,Qy,Qv] at q0;have HB:=Hi I;go_loop [5,6] (λn i=> ∃j,j<=z.length/\i= Iq (j - 1)/\ ∃v,n= Iq v/\Hid (v=dQ D (z.drop j) u)) (λ_ i=>(intOf i+1).toNat)
 case atStart=>exact⟨z.length,Qn _,rfl,D,rfl,by show _=_;rw[Sl];rfl⟩
 case round=>
  obtain⟨j,hj,rfl,v,rfl,HV⟩:=hrel;by_cases h0:j=0
  ·subst h0;go_wp2_with fail;go_ret;exact⟨by rw[HV.out];rfl,HB.out⟩
  obtain⟨q,rfl⟩:∃q,j=q+1:=⟨j - 1,by omega⟩
  obtain⟨b,o,rfl,c0,c1,hn⟩:=HC.out q (by omega)
  have O:=Hi (vN D z u q (by omega))
  have ab:R.cell? ⟨b,o+q*2,none⟩=some (S (z.getD q ([],0)).1):=by rw[I.cell (p:=⟨b,o+q*2,none⟩) (Qk w _ c0)];exact c0
  have ac:R.cell? ⟨b,o+q*2+1,none⟩=some (Iq (z.getD q ([],0)).2):=by rw[I.cell (p:=⟨b,o+q*2+1,none⟩) (Qk w _ c1)];exact c1
  have ei:((q+1:Nat):Int) - 1=(q:Int):=by omega
  have b1:(q:Int)<(z.length:Int):=by omega
  rw[ei];generalize z.getD q ([],0)=x at*;cases G:(x.1==u) with
  |true=>
   have J:Hid (dQ D (z.drop q) u=x.2):=by show _=_;rw[O.out,Qo G]
   go_wp2_with fail;go_round
   case rel=>exact⟨q,by omega,by simp,x.2,rfl,J.out.symm⟩
   case measure=>simp[intOf]
  |false=>
   have J:Hid (dQ D (z.drop q) u=v):=by show _=_;rw[O.out,Qj (by rw[G];simp),HV.out]
   go_wp2_with fail;go_round
   case rel=>exact⟨q,by omega,by simp,v,rfl,J.out.symm⟩
   case measure=>simp[intOf]
def dM (G:List (List UInt8×Int)) (u:List UInt8):Int:=match G with
 |[]=>0
 |x::r=>if x.1==u then eZ x.2 else dM r u
theorem uj (z:List (LB×Int)) (u:LB) (i) (h:i<z.length):dM (z.drop i) u=if(z.getD i ([],0)).1==u then eZ (z.getD i ([],0)).2 else dM (z.drop (i+1)) u:=by
 rw[QF h,dM,Qi,Ql h];rfl
theorem NO {mv} {z:List (LB×Int)} (u:LB) (w) (h:dc mv z w):
 Calls prog 84 #[.agg #[lv,Iq D,mv,.bool E],S u] w λe w'=>e= .returned (Iq (dM z u))/\Bl w w':=by
 obtain⟨hm,a,cap,rfl,U⟩:=h;unfold maxLen at hm;have V:=(Qq w.heap.size w).alloc (Qn _) (.cells #[lv,Iq D,.slice a z.length cap,.bool E] 50);have G:(w.alloc (.cells #[lv,Iq D,.slice a z.length cap,.bool E] 50)).heap[w.heap.size]?=some (.cells #[lv,Iq D,.slice a z.length cap,.bool E] 50 (0,0)):=Qp w _;have Y:=Hi (And.intro V G);have HC:=Hi U;go_enter func84,ntmps84;go_wp2_with fail;obtain⟨I,Z⟩:=Y.out;generalize aa:w.alloc (.cells #[lv,Iq D,.slice a z.length cap,.bool E] 50)=R at*;have q0:=Qm R w.heap.size 2 _ _ _ Z;simp only[Qx,Qy,Qv] at q0;have HB:=Hi I;go_loop [5,6] (λn i=> ∃j,j<=z.length/\i= Iq (j - 1)/\ ∃v,n= Iq v/\Hid (v=dM (z.drop j) u)) (λ_ i=>(intOf i+1).toNat)
 case atStart=>exact⟨z.length,Qn _,rfl,0,rfl,by show _=_;rw[Sl];rfl⟩
 case round=>
  obtain⟨j,hj,rfl,v,rfl,HV⟩:=hrel;by_cases h0:j=0
  ·subst h0;go_wp2_with fail;go_ret;exact⟨by rw[HV.out];rfl,HB.out⟩
  obtain⟨q,rfl⟩:∃q,j=q+1:=⟨j - 1,by omega⟩
  obtain⟨b,o,rfl,c0,c1,hn⟩:=HC.out q (by omega)
  have O:=Hi (uj z u q (by omega))
  have ab:R.cell? ⟨b,o+q*2,none⟩=some (S (z.getD q ([],0)).1):=by rw[I.cell (p:=⟨b,o+q*2,none⟩) (Qk w _ c0)];exact c0
  have ac:R.cell? ⟨b,o+q*2+1,none⟩=some (Iq (z.getD q ([],0)).2):=by rw[I.cell (p:=⟨b,o+q*2+1,none⟩) (Qk w _ c1)];exact c1
  have ei:((q+1:Nat):Int) - 1=(q:Int):=by omega
  have b1:(q:Int)<(z.length:Int):=by omega
  rw[ei];generalize z.getD q ([],0)=x at*;cases G:(x.1==u) with
  |true=>
   have J:Hid (dM (z.drop q) u=eZ x.2):=by show _=_;rw[O.out,Qo G]
   have WK:=λW=>yp hn W
   generalize eZ x.2=kx at*;go_wp2_with fail;apply(WK _).mono;rintro e w5 ⟨rfl,rfl⟩;go_wp2_with fail;go_round
   case rel=>exact⟨q,by omega,by simp,kx,rfl,J.out.symm⟩
   case measure=>simp[intOf]
  |false=>
   have J:Hid (dM (z.drop q) u=v):=by show _=_;rw[O.out,Qj (by rw[G];simp),HV.out]
   go_wp2_with fail;go_round
   case rel=>exact⟨q,by omega,by simp,v,rfl,J.out.symm⟩
   case measure=>simp[intOf]
theorem Dr {mv} {z:List (LB×Int)} (u:LB) (w) (h:dc lv z w):
 Calls prog 79 #[.agg #[lv,Iq D,mv,.bool G],S u] w λe w'=>e= .returned (Iq (dQ D z u))/\Bl w w':=by
 obtain⟨hm,a,cap,rfl,hc⟩:=h;unfold maxLen at hm;have hb:=(Qq w.heap.size w).alloc (Qn _) (.cells #[.slice a z.length cap,Iq D,mv,.bool G] 50);have O:(w.alloc (.cells #[.slice a z.length cap,Iq D,mv,.bool G] 50)).heap[w.heap.size]?=some (.cells #[.slice a z.length cap,Iq D,mv,.bool G] 50 (0,0)):=Qp w _;have H0:=Hi (And.intro hb O);have HC:=Hi hc;go_enter func79,ntmps79;go_wp2;obtain⟨V,Y⟩:=H0.out;generalize w.alloc (.cells #[.slice a z.length cap,Iq D,mv,.bool G] 50)=wz at*;go_loopw [10] (λi wr=> ∃j,j<=z.length/\i= Iq j/\Hid (dQ D z u=dQ D (z.drop j) u)/\Bl w wr/\wr.heap[w.heap.size]?=some (.cells #[.slice a z.length cap,Iq D,mv,.bool G] 50 (0,0))) (λi _=>z.length - (intOf i).toNat)
 case atStart=>exact⟨0,QA _,rfl,rfl,V,Y⟩
 case round=>
  obtain⟨j,hj,rfl,J,E,I⟩:=hrel;have q1:=Qm wr w.heap.size 1 _ _ _ I;simp only[Qx,Qy,Qv] at q1;by_cases Z:j<z.length
  ·obtain⟨b,o,rfl,c0,c1,hn⟩:=HC.out j Z;have U:=Hi (vN D z u j Z);have ab:wr.cell? ⟨b,o+j*2,none⟩=some (S (z.getD j ([],0)).1):=by rw[E.cell (p:=⟨b,o+j*2,none⟩) (Qk w _ c0)];exact c0
   have ae:wr.cell? ⟨b,o+j*2+1,none⟩=some (Iq (z.getD j ([],0)).2):=by rw[E.cell (p:=⟨b,o+j*2+1,none⟩) (Qk w _ c1)];exact c1
   have lb:=Qk wr _ ab;simp only at lb;have b0:0<=j:=by omega
   have b1:j<z.length:=by omega
   generalize z.getD j ([],0)=x at*;have aa:Hid (Bl w (wr.alloc (.cells #[S x.1,Iq x.2] 108))):=E.alloc E.size _;have ac:Hid ((wr.alloc (.cells #[S x.1,Iq x.2] 108)).heap[w.heap.size]?=some (.cells #[.slice (some ⟨b,o,none⟩) z.length cap,Iq D,mv,.bool G] 50 (0,0))):=by show _=_;rw[Qu _ _ _ (be I)];exact I
   cases O:(x.1==u) with
   |true=>
    have R:Hid (dQ D z u=x.2):=by show _=_;rw[J.out,U.out,Qo O]
    go_wp2;go_ret;exact⟨by rw[R.out];rfl,aa.out⟩
   |false=>
    have R:Hid (dQ D z u=dQ D (z.drop (j+1)) u):=by show _=_;rw[J.out,U.out,Qj (by rw[O];simp)]
    go_wp2;go_roundw
    case rel=>exact⟨j+1,by omega,by simp,R.out,aa.out,ac.out⟩
    case measure=>simp[intOf];omega
  have ad:j=z.length:=by omega
  subst ad;have HE:Hid (dQ D z u=D):=by show _=_;rw[J.out,Sl];rfl
  have HB:=Hi E;go_wp2;go_ret;exact⟨by rw[HE.out];rfl,HB.out⟩
theorem xM {mv} {z:List (LB×Int)} (u:LB) (w) (h:dc mv z w):
 Calls prog 80 #[.agg #[lv,Iq E,mv,.bool G],S u] w λe w'=>e= .returned (Iq (dM z u))/\Bl w w':=by
 obtain⟨hm,a,cap,rfl,hc⟩:=h;unfold maxLen at hm;have hb:=(Qq w.heap.size w).alloc (Qn _) (.cells #[lv,Iq E,.slice a z.length cap,.bool G] 50);have O:(w.alloc (.cells #[lv,Iq E,.slice a z.length cap,.bool G] 50)).heap[w.heap.size]?=some (.cells #[lv,Iq E,.slice a z.length cap,.bool G] 50 (0,0)):=Qp w _;have H0:=Hi (And.intro hb O);have HC:=Hi hc;go_enter func80,ntmps80;go_wp2;obtain⟨V,Y⟩:=H0.out;generalize w.alloc (.cells #[lv,Iq E,.slice a z.length cap,.bool G] 50)=wz at*;go_loopw [10] (λi wr=> ∃j,j<=z.length/\i= Iq j/\Hid (dM z u=dM (z.drop j) u)/\Bl w wr/\wr.heap[w.heap.size]?=some (.cells #[lv,Iq E,.slice a z.length cap,.bool G] 50 (0,0))) (λi _=>z.length - (intOf i).toNat)
 case atStart=>exact⟨0,QA _,rfl,rfl,V,Y⟩
 case round=>
  obtain⟨j,hj,rfl,J,D,I⟩:=hrel;have q1:=Qm wr w.heap.size 1 _ _ _ I;simp only[Qx,Qy,Qv] at q1;by_cases Z:j<z.length
  ·obtain⟨b,o,rfl,c0,c1,hn⟩:=HC.out j Z;have U:=Hi (uj z u j Z);have ab:wr.cell? ⟨b,o+j*2,none⟩=some (S (z.getD j ([],0)).1):=by rw[D.cell (p:=⟨b,o+j*2,none⟩) (Qk w _ c0)];exact c0
   have ae:wr.cell? ⟨b,o+j*2+1,none⟩=some (Iq (z.getD j ([],0)).2):=by rw[D.cell (p:=⟨b,o+j*2+1,none⟩) (Qk w _ c1)];exact c1
   have lb:=Qk wr _ ab;simp only at lb;have b0:0<=j:=by omega
   have b1:j<z.length:=by omega
   generalize z.getD j ([],0)=x at*;have aa:Hid (Bl w (wr.alloc (.cells #[S x.1,Iq x.2] 110))):=D.alloc D.size _;have ac:Hid ((wr.alloc (.cells #[S x.1,Iq x.2] 110)).heap[w.heap.size]?=some (.cells #[lv,Iq E,.slice (some ⟨b,o,none⟩) z.length cap,.bool G] 50 (0,0))):=by show _=_;rw[Qu _ _ _ (be I)];exact I
   cases O:(x.1==u) with
   |true=>
    have R:Hid (dM z u=eZ x.2):=by show _=_;rw[J.out,U.out,Qo O]
    have WK:=λW=>ue x.2 W
    generalize eZ x.2=kx at*;go_wp2_with fail;apply(WK _).mono;rintro e w5 ⟨rfl,rfl⟩;go_wp2;go_ret;exact⟨by rw[R.out];rfl,aa.out⟩
   |false=>
    have R:Hid (dM z u=dM (z.drop (j+1)) u):=by show _=_;rw[J.out,U.out,Qj (by rw[O];simp)]
    go_wp2;go_roundw
    case rel=>exact⟨j+1,by omega,by simp,R.out,aa.out,ac.out⟩
    case measure=>simp[intOf];omega
  have ad:j=z.length:=by omega
  subst ad;have HE:Hid (dM z u=0):=by show _=_;rw[J.out,Sl];rfl
  have HB:=Hi D;go_wp2;go_ret;exact⟨by rw[HE.out];rfl,HB.out⟩
theorem iz (G:x∈([[43],[45],[60],[60,61],[61],[111,114],[97,110,100]])) (I:dn a) (J:dn b) (w):
 Calls prog 126 #[Iq (kn x),Iq a,Iq b] w λe w'=>e= .returned (Iq (od x a b))/\w'=w:=by
 simp only[Ra,RQ,Tn] at G;rcases G with rfl|rfl|rfl|rfl|rfl|rfl|rfl
 ·have D:Hid (od [43] a b=eW (a+b)):=rfl
  have z:=λW=>A2 I J W
  rw[show kn [43]=6 from by decide]
  generalize eW (a+b)=r at*;go_enter func126,ntmps126;go_wp2_with fail;apply(z _).mono;rintro e E ⟨rfl,rfl⟩;go_wp2;go_ret;exact⟨by rw[D.out];rfl,rfl⟩
 ·have D:Hid (od [45] a b=eW (a - b)):=rfl
  have z:=λW=>A3 I J W
  rw[show kn [45]=7 from by decide]
  generalize eW (a - b)=r at*;go_enter func126,ntmps126;go_wp2_with fail;apply(z _).mono;rintro e E ⟨rfl,rfl⟩;go_wp2;go_ret;exact⟨by rw[D.out];rfl,rfl⟩
 ·have D:Hid (od [60] a b=cT (decide (a<b))):=rfl
  have z:=λW=>yq a b W
  rw[show kn [60]=10 from by decide]
  generalize cT (decide (a<b))=r at*;go_enter func126,ntmps126;go_wp2_with fail;apply(z _).mono;rintro e E ⟨rfl,rfl⟩;go_wp2;go_ret;exact⟨by rw[D.out];rfl,rfl⟩
 ·have D:Hid (od [60,61] a b=cT (decide (a<=b))):=rfl
  have z:=λW=>ug a b W
  rw[show kn [60,61]=9 from by decide]
  generalize cT (decide (a<=b))=r at*;go_enter func126,ntmps126;go_wp2_with fail;apply(z _).mono;rintro e E ⟨rfl,rfl⟩;go_wp2;go_ret;exact⟨by rw[D.out];rfl,rfl⟩
 ·have D:Hid (od [61] a b=cT (a==b)):=rfl
  have z:=λW=>vB a b W
  rw[show kn [61]=8 from by decide]
  generalize cT (a==b)=r at*;go_enter func126,ntmps126;go_wp2_with fail;apply(z _).mono;rintro e E ⟨rfl,rfl⟩;go_wp2;go_ret;exact⟨by rw[D.out];rfl,rfl⟩
 ·have D:Hid (od [111,114] a b=cT (a==1||b==1)):=rfl
  have z:=λW=>E9 a b W
  rw[show kn [111,114]=17 from by decide]
  generalize cT (a==1||b==1)=r at*;go_enter func126,ntmps126;go_wp2_with fail;apply(z _).mono;rintro e E ⟨rfl,rfl⟩;go_wp2;go_ret;exact⟨by rw[D.out];rfl,rfl⟩
 ·have D:Hid (od [97,110,100] a b=cT (a==1&&b==1)):=rfl
  have z:=λW=>A0 a b W
  rw[show kn [97,110,100]=18 from by decide]
  generalize cT (a==1&&b==1)=r at*;go_enter func126,ntmps126;go_wp2_with fail;apply(z _).mono;rintro e E ⟨rfl,rfl⟩;go_wp2;go_ret;exact⟨by rw[D.out];rfl,rfl⟩
structure Ev where
 sender:List UInt8
 target:List UInt8
 wants:Int
 need:Int
 when_:Int
structure Au where
 levels:List (List UInt8×Int)
 dflt:Int
 members:List (List UInt8×Int)
 open_:Bool
def xN (e:Ev):Value:= .agg #[S e.sender,S e.target,Iq e.wants,Iq e.need,Iq e.when_]
def lh (lv mv:Value) (s:Au):Value:= .agg #[lv,Iq s.dflt,mv,.bool s.open_]
def dz (e:Ev) (s:Au):List Int:=[dQ s.dflt s.levels e.sender,dQ s.dflt s.levels e.target,e.need,e.when_,dM s.members e.sender,dM s.members e.target,eZ e.wants,cT (e.sender==e.target),cT s.open_]
abbrev GG (w q z A D wh lv E mv G W):=Below w.heap.size w W/\W.cell? ⟨w.heap.size,0,none⟩=some (S q)/\W.cell? ⟨w.heap.size,1,none⟩=some (S z)/\W.cell? ⟨w.heap.size,2,none⟩=some (.int .i64 A)/\W.cell? ⟨w.heap.size,3,none⟩=some (.int .i64 D)/\W.cell? ⟨w.heap.size,4,none⟩=some (.int .i64 wh)/\W.cell? ⟨w.heap.size+1,0,none⟩=some (lv)/\W.cell? ⟨w.heap.size+1,1,none⟩=some (.int .i64 E)/\W.cell? ⟨w.heap.size+1,2,none⟩=some (mv)/\W.cell? ⟨w.heap.size+1,3,none⟩=some (.bool G)
theorem vO {lv mv:Value} (e) (s) (w) (h1:dc lv s.levels w) (h2:dc mv s.members w) (hw:dn e.wants):
 Calls prog 41 #[xN e,lh lv mv s] w λen w'=>(∃gf,en= .returned (Sq gf 9 9)/\ ∀i,i<9->w'.cell? ⟨gf,i,none⟩=some (Iq ((dz e s).getD i 0)))/\Below w.heap.size w w':=by
 unfold xN lh;obtain⟨q,z,E,G,wh⟩:=e;obtain⟨U,A,V,D⟩:=s;simp only[] at*;have I:Below w.heap.size w ((w.alloc (.cells #[S q,S z,Iq E,Iq G,Iq wh] 46)).alloc (.cells #[lv,Iq A,mv,.bool D] 50)):=((Qq _ _).alloc (Qn _) _).alloc (by simp) _
 have J:((w.alloc (.cells #[S q,S z,Iq E,Iq G,Iq wh] 46)).alloc (.cells #[lv,Iq A,mv,.bool D] 50)).heap[w.heap.size]?=some (.cells #[S q,S z,Iq E,Iq G,Iq wh] 46 (0,0)):=by rw[Qu _ _ _ (by simp)];exact Qp w _
 have O:((w.alloc (.cells #[S q,S z,Iq E,Iq G,Iq wh] 46)).alloc (.cells #[lv,Iq A,mv,.bool D] 50)).heap[w.heap.size+1]?=some (.cells #[lv,Iq A,mv,.bool D] 50 (0,0)):=by have e:=Qp (w.alloc (.cells #[S q,S z,Iq E,Iq G,Iq wh] 46)) (.cells #[lv,Iq A,mv,.bool D] 50);rw[Qw] at e;exact e
 have H0:=Hi (And.intro I (And.intro J O));have WL:∀(u:List UInt8) (W:World),Below w.heap.size w W->Calls prog 83 #[.agg #[lv,Iq A,mv,.bool D],S u] W λe w'=>e= .returned (Iq (dQ A U u))/\Below W.heap.size W w':=λu W Y=>GF u W (h1.below Y)
 have WI:∀(u:List UInt8) (W:World),Below w.heap.size w W->Calls prog 84 #[.agg #[lv,Iq A,mv,.bool D],S u] W λe w'=>e= .returned (Iq (dM V u))/\Below W.heap.size W w':=λu W Y=>NO u W (h2.below Y)
 have WK:=λW=>yp hw W
 have WT:=λb W=>sW b W
 have KP:Hid (∀W W',(GG w q z E G wh lv A mv D W)->Below W.heap.size W W'->(GG w q z E G wh lv A mv D W')):=λW W' hS Y=>by
  obtain⟨R,a0,a1,a2,a3,a4,a5,a6,a7,a8⟩:=hS;refine⟨R.trans (Y.mono R.size),?_,?_,?_,?_,?_,?_,?_,?_,?_⟩
  all_goals (rw[Y.cell (Qk W _ (by assumption))];assumption)
 have KD:Hid (∀W:World,(GG w q z E G wh lv A mv D W)->(GG w q z E G wh lv A mv D W.drew)):=λW hS=>by
  obtain⟨R,a0,a1,a2,a3,a4,a5,a6,a7,a8⟩:=hS;exact⟨R.drew,a0,a1,a2,a3,a4,a5,a6,a7,a8⟩
 have HF:Hid (dz ⟨q,z,E,G,wh⟩ ⟨U,A,V,D⟩=[dQ A U q,dQ A U z,G,wh,dM V q,dM V z,eZ E,cT (q==z),cT D]):=rfl;go_enter func41,ntmps41;go_wp2_with fail;obtain⟨I,J,O⟩:=H0.out;generalize ((w.alloc (.cells #[S q,S z,Iq E,Iq G,Iq wh] 46)).alloc (.cells #[lv,Iq A,mv,.bool D] 50))=wz at*;have ad:GG w q z E G wh lv A mv D wz:=by
  refine⟨I,?_,?_,?_,?_,?_,?_,?_,?_,?_⟩
  all_goals first|(rw[Qm wz w.heap.size _ _ _ _ J];rfl)|(rw[Qm wz (w.heap.size+1) _ _ _ _ O];rfl)
 go_region_held3 (GG w q z E G wh lv A mv D) (first|exact KD.out _ (by assumption)|exact KP.out _ _ (by assumption) (by assumption)|exact KP.out _ _ (by assumption) ((Qq _ _).alloc (Qn _) _)|assumption|go_keep)
  (first
   |(go_at_call 83;refine(WL _ _ (by exact SL (by assumption))).mono ?_;rintro e Z ⟨rfl,ae⟩)
   |(go_at_call 84;refine(WI _ _ (by exact SL (by assumption))).mono ?_;rintro e Z ⟨rfl,ae⟩)
   |(go_at_call 85;refine(WK _).mono ?_;rintro e Z ⟨rfl,rfl⟩)
   |(go_at_call 86;refine(WT _ _).mono ?_;rintro e Z ⟨rfl,rfl⟩))
 rename_i hHeld;have ab:=hHeld.1;have aa:=Qp Z (.cells #[Iq (dQ A U q),Iq (dQ A U z),Iq G,Iq wh,Iq (dM V q),Iq (dM V z),Iq (eZ E),Iq (cT (q==z)),Iq (cT D)] 2);have HN:=Hi (And.intro ab aa);go_wp2_with fail;go_ret;refine⟨⟨Z.heap.size,rfl,λi hi=>?_⟩,HN.out.1⟩
 rw[Qm _ Z.heap.size i _ _ _ HN.out.2,HF.out];have e9:i=0\/i=1\/i=2\/i=3\/i=4\/i=5\/i=6\/i=7\/i=8:=by omega
 rcases e9 with rfl|rfl|rfl|rfl|rfl|rfl|rfl|rfl|rfl<;>rfl
end
end Go.Proofs.YtfkdailfcmnjlaaGreatDoor
