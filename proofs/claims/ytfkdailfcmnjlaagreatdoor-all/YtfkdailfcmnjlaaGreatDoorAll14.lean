/-
  A part.
-/
import Derived.Test.YtfkdailfcmnjlaaGreatDoorAll13
set_option linter.all false
set_option maxHeartbeats 40000000
set_option maxRecDepth 1000000
namespace Go.Proofs.YtfkdailfcmnjlaaGreatDoor
open Go Go.RowKit
variable {i j a b fl x k k' st cl E C lv t d lv' G p lets lt' v ty m c l F q s r jmp D o z R I n pre}
structure ek where
 op:Nat
 n:Int
 pl:Nat
def cH:ek:=⟨0,0,0⟩
def cG (z:Nat):Nat:=if z=1 then 9 else if 2<=z/\z<=6 then 2 else if 7<=z/\z<=14 then 1 else if z=15\/z=16 then 3 else if z=17\/z=18 then 2 else 0
def dE (z cells:Nat):Int:=if z=2 then 1 else if z=3 then 4 else if z=4 then 8 else if z=5\/z=6 then(cells:Int) - 1 else 255
def cr (b:List UInt8) (i:Nat):Nat:=(b.getD i 0).toNat
def fb (b:List UInt8) (i:Nat):Nat->Nat
 |0=>0
 |n+1=>fb b i n*256+cr b (i+n)
def fe (n:Nat):Int:=if n<9223372036854775808 then(n:Int) else(n:Int) - 18446744073709551616
def nI (b:List UInt8) (z at_:Nat):Int:=if z=1 then fe (fb b (at_+1) 8) else(fb b (at_+1) (cG z - 1):Int)
def vP (b:List UInt8) (at_:Nat):ek:=⟨cr b at_,nI b (cr b at_) at_,at_⟩
def qM:Nat->List UInt8->Nat->Option (List ek)
 |0,_,_=>none
 |f+1,b,a=>if b.length<=a then some [] else if cG (cr b a)≠0/\a+cG (cr b a)<=b.length/\(cG (cr b a)=2->(cr b (a+1):Int)<=dE (cr b a) (cr b 2)) then(qM f b (a+cG (cr b a))).map (vP b a:: ·) else none
structure Kn where
 st:List Nat
 cl:List Nat
def fL (n:Nat):Nat:=if n<=3 then 1 else if n<=6 then 3 else 2
def kD (z more:List Nat) (k:Kn):Option Kn:=if k.st.take z.length=z then some ⟨more++k.st.drop z.length,k.cl⟩ else none
def eo (z n:Nat) (k:Kn):Option Kn:=
 if z=1 then some ⟨1::k.st,k.cl⟩
 else if z=2 then some ⟨2::k.st,k.cl⟩
 else if z=3 then some ⟨3::k.st,k.cl⟩
 else if z=4 then some ⟨fL n::k.st,k.cl⟩
 else if z=5 then(match k.st with
  |[]=>none
  |t::r=>some ⟨r,k.cl.set n t⟩)
 else if z=6 then(if k.cl.getD n 0=0 then none else some ⟨k.cl.getD n 0::k.st,k.cl⟩)
 else if z=7\/z=8 then kD [1,1] [1] k
 else if z=9 then(match k.st with
  |x::y::r=>if x=y then some ⟨2::r,k.cl⟩ else none
  |_=>none)
 else if z=10\/z=11 then kD [1,1] [2] k
 else if z=12 then kD [2] [2] k
 else if z=13\/z=14 then kD [2,2] [2] k
 else if z=15 then kD [2] [] k
 else some k
def gn (ins:List ek) (x:ek):Option Nat:=ins.findIdx? λy=>y.pl==x.pl+3+x.n.toNat
def ff (ins:List ek) (i:Nat) (x:ek):List (Option Nat):=
 if x.op=15 then[if i+1<ins.length then some (i+1) else none,gn ins x]
 else if x.op=16 then[gn ins x]
 else if x.op=17\/x.op=18 then[]
 else[if i+1<ins.length then some (i+1) else none]
def im (a b:List Nat):List Nat:=List.zipWith (λx y=>if x=y then x else 0) a b
def dX (come:List (Option Kn)) (k:Kn):List (Option Nat)->Option (List (Option Kn))
 |[]=>some come
 |none::_=>none
 |some j::r=>match come.getD j none with
  |none=>dX (come.set j (some k)) k r
  |some a=>if a.st=k.st then dX (come.set j (some ⟨a.st,im a.cl k.cl⟩)) k r else none
def jw (ins:List ek) (z:Nat):List ek->Nat->List (Option Kn)->Bool
 |[],_,_=>true
 |x::r,i,come=>match come.getD i none with
  |none=>jw ins z r (i+1) come
  |some k=>match eo x.op x.n.toNat k with
   |none=>false
   |some E=>if z<E.st.length then false else(match dX come E (ff ins i x) with
    |none=>false
    |some D=>jw ins z r (i+1) D)
def iX (cells n:Nat):List (Option Kn):=some ⟨[],List.replicate cells 0⟩::List.replicate (n - 1) none
def fD (b:List UInt8):Option (List ek):=
 if b.length<4\/4000<b.length\/cr b 0≠71\/24<cr b 1 then none else
 match qM (b.length+1) b 3 with
 |none=>none
 |some ins=>if jw ins (cr b 1) ins 0 (iX (cr b 2) ins.length) then some ins else none
def kS (z:Nat) (a b:Int):Int:=
 if z=7 then eW (a+b) else if z=8 then eW (a - b) else if z=9 then cT (a==b) else if z=10 then cT (decide (a<b))
 else if z=11 then cT (decide (a<=b)) else if z=13 then cT (a==1&&b==1) else cT (a==1||b==1)
def iP (fl:List Int) (x:ek) (st cl:List Int):Option (List Int×List Int×Bool):=
 if x.op=1\/x.op=2\/x.op=3 then some (x.n::st,cl,false)
 else if x.op=4 then some (fl.getD x.n.toNat 0::st,cl,false)
 else if x.op=5 then(match st with
  |[]=>none
  |v::r=>some (r,cl.set x.n.toNat v,false))
 else if x.op=6 then some (cl.getD x.n.toNat 0::st,cl,false)
 else if x.op=12 then(match st with
  |[]=>none
  |v::r=>some ((1 - v)::r,cl,false))
 else if x.op=15 then(match st with
  |[]=>none
  |v::r=>some (r,cl,v==0))
 else if x.op=16 then some (st,cl,true)
 else(match st with
  |b::a::r=>some (kS x.op a b::r,cl,false)
  |_=>none)
def rX (ins:List ek) (fl:List Int):Nat->Nat->List Int->List Int->Nat->Option (Bool×Nat×Nat)
 |0,_,_,_,_=>none
 |f+1,i,st,cl,n=>
  if i<ins.length then
   if(ins.getD i cH).op=17\/(ins.getD i cH).op=18 then some (decide ((ins.getD i cH).op=17),(ins.getD i cH).n.toNat,n+1)
   else match iP fl (ins.getD i cH) st cl with
    |none=>none
    |some (st',cl',false)=>rX ins fl f (i+1) st' cl' (n+1)
    |some (st',cl',true)=>match gn ins (ins.getD i cH) with
     |none=>none
     |some j=>rX ins fl f j st' cl' (n+1)
  else none
theorem eS (b:LB) (i:Nat):cr b i<256:=UInt8.toNat_lt _
theorem ph (b:LB) (i n:Nat):fb b i n<256^n:=by
 induction n with
 |zero=>simp[fb]
 |succ n ih=>rw[fb,Tl];have:=eS b (i+n);omega
theorem GH {n:Nat} (h:n<18446744073709551616):dn (fe n):=by
 unfold fe dn;split<;>omega
theorem zC (z:Nat):cG z<=9:=by unfold cG;(repeat' split)<;>omega
theorem zD {z:Nat} (h:cG z≠0):1<=z/\z<=18:=by
 unfold cG at h;by_cases D:z=1
 ·omega
 rw[Qj D] at h;by_cases E:2<=z/\z<=6
 ·omega
 rw[Qj E] at h;by_cases h3:7<=z/\z<=14
 ·omega
 rw[Qj h3] at h;by_cases G:z=15\/z=16
 ·omega
 rw[Qj G] at h;by_cases I:z=17\/z=18
 ·omega
 rw[Qj I] at h;exact absurd rfl h
structure rY (b:List UInt8) (x:ek):Prop where
 here:x=vP b x.pl
 size:cG x.op≠0
 fits:x.pl+cG x.op<=b.length
 bound:cG x.op=2->(cr b (x.pl+1):Int)<=dE x.op (cr b 2)
def oh (a e:Nat):List ek->Prop
 |[]=>a=e
 |x::r=>x.pl=a/\oh (a+cG x.op) e r
theorem zE {b:LB} (f):∀{a ins},qM f b a=some ins->a<=b.length->(∀x∈ins,rY b x)/\oh a b.length ins:=by
 induction f with
 |zero=>intro a ins h;simp[qM] at h
 |succ f ih=>
  intro a ins h O;rw[qM] at h;by_cases G:b.length<=a
  ·rw[Qo G] at h;simp at h;subst h;exact⟨by simp,by unfold oh;omega⟩
  rw[Qj G] at h;by_cases z:cG (cr b a)≠0/\a+cG (cr b a)<=b.length/\(cG (cr b a)=2->(cr b (a+1))<=dE (cr b a) (cr b 2))
  ·rw[Qo z] at h;cases D:qM f b (a+cG (cr b a)) with
   |none=>rw[D] at h;simp at h
   |some r=>
    rw[D] at h;simp at h;subst h;obtain⟨I,J⟩:=ih D z.2.1;refine⟨λx E=>?_,rfl,J⟩
    rcases Ra.1 E with rfl|E
    ·exact⟨rfl,z.1,z.2.1,z.2.2⟩
    exact I x E
  rw[Qj z] at h;simp at h
theorem nJ {e:Nat}:∀{ins} {a:Nat},(∀x∈ins,cG x.op≠0)->oh a e ins->a+ins.length<=e/\ ∀i,i<ins.length->a<=(ins.getD i cH).pl/\(ins.getD i cH).pl<e
 |[],a,_,h=>⟨by unfold oh at h;simp;omega,λi z=>by simp at z⟩
 |x::r,a,D,h=>by
  obtain⟨J,E⟩:=h;have O:=D x (by simp)
  obtain⟨R,G⟩:=nJ (λy I=>D y (by simp[I])) E
  refine⟨by simp;omega,λi z=>?_⟩
  cases i with
  |zero=>simp only[Rp];omega
  |succ i=>rw[QI];have:=G i (by simpa using z);omega
theorem mr {e:Nat}:∀{ins} {a:Nat},(∀x∈ins,cG x.op≠0)->oh a e ins-> ∀i j,i<j->j<ins.length->(ins.getD i cH).pl+cG (ins.getD i cH).op<=(ins.getD j cH).pl
 |[],a,_,h=>λi j _ z=>by simp at z
 |x::r,a,G,h=>λi j J z=>by
  obtain⟨O,D⟩:=h;obtain⟨j,rfl⟩:∃k,j=k+1:=⟨j - 1,by omega⟩
  rw[QI];have E:∀y∈r,cG y.op≠0:=λy I=>G y (by simp[I])
  cases i with
  |zero=>simp only[Rp];have:=(nJ E D).2 j (by simpa using z);omega
  |succ i=>rw[QI];exact mr E D i j (by omega) (by simpa using z)
structure fg (b:List UInt8) (ins:List ek):Prop where
 each:∀x∈ins,rY b x
 order:oh 3 b.length ins
theorem gY {ins:List ek} {i:Nat} (h:i<ins.length):ins.getD i cH∈ins:=by rw[Qi,Ql h];exact QD h
theorem vQ {b:LB} {ins} (h:fg b ins) (I:i<ins.length) (z:gn ins (ins.getD i cH)=some j):i<j/\j<ins.length/\(ins.getD j cH).pl=(ins.getD i cH).pl+3+(ins.getD i cH).n.toNat:=by
 unfold gn at z;rw[R2] at z;obtain⟨D,J,_⟩:=z;have e:ins.getD j cH=ins[j]:=by rw[Qi,Ql D];rfl
 have h3:(ins.getD j cH).pl=(ins.getD i cH).pl+3+(ins.getD i cH).n.toNat:=by rw[e];simpa using J
 refine⟨?_,D,h3⟩;by_cases E:i<j
 ·exact E
 exfalso;by_cases G:j=i
 ·subst G;omega
 have:=mr (λx O=>(h.each x O).size) h.order j i (by omega) I
 omega
def J3 (a b:List Nat):Prop:= ∀c,a.getD c 0≠0->a.getD c 0=b.getD c 0
theorem J3.refl (a:List Nat):J3 a a:=λ_ _=>rfl
theorem J3.trans {a b c:List Nat} (z:J3 a b) (D:J3 b c):J3 a c:=λi h=>by
 have e:=z i h;rw[e] at h⊢;exact D i h
theorem uT (a b:List Nat) (c:Nat):(im a b).getD c 0=if c<a.length/\c<b.length then(if a.getD c 0=b.getD c 0 then a.getD c 0 else 0) else 0:=by
 unfold im;by_cases h:c<a.length/\c<b.length
 ·rw[Qo h];simp[Qi,List.getElem?_zipWith,Ql h.1,Ql h.2]
 rw[Qj h,Qi,QC (by simp;omega)];rfl
theorem GI (a b:List Nat):J3 (im a b) a:=λc h=>by
 rw[uT] at h⊢;split at h
 ·rename_i z;rw[Qo z];split at h
  ·rename_i D;rw[Qo D]
  exact absurd rfl h
 exact absurd rfl h
theorem Ds (a b:List Nat):J3 (im a b) b:=λc h=>by
 rw[uT] at h⊢;split at h
 ·rename_i D;rw[Qo D];split at h
  ·rename_i z;rw[Qo z];exact z
  exact absurd rfl h
 exact absurd rfl h
def ke (a b:Option Kn):Prop:= ∀k,a=some k-> ∃D,b=some D/\D.st=k.st/\J3 D.cl k.cl
theorem ke.refl (a:Option Kn):ke a a:=λk h=>⟨k,h,rfl,J3.refl _⟩
theorem ke.trans {a b c:Option Kn} (z:ke a b) (D:ke b c):ke a c:=λk h=>by
 obtain⟨E,G,I,J⟩:=z k h;obtain⟨O,R,U,V⟩:=D E G;exact⟨O,R,U.trans I,V.trans J⟩
theorem getD_set_ne {α:Type} {l:List α} {v d:α} (h:i≠j):(l.set i v).getD j d=l.getD j d:=by
 simp[Qi,S9 h]
theorem cQ {α:Type} {l:List α} {v d:α} (h:i<l.length):(l.set i v).getD i d=v:=by
 simp[Qi,h]
theorem Bn {k:Kn}:∀{ts} {come z:List (Option Kn)},dX come k ts=some z->(∀j,some j∈ts->j<come.length)->
 z.length=come.length/\(∀t∈ts,∃j,t=some j)/\(∀j,some j∈ts->ke (some k) (z.getD j none))/\(∀j,some j∉ts->z.getD j none=come.getD j none)/\(∀j,ke (come.getD j none) (z.getD j none))
 |[],come,z,h,_=>by
  simp[dX] at h;subst h;exact⟨rfl,by simp,by simp,λ_ _=>rfl,λ_=>ke.refl _⟩
 |none::r,come,z,h,_=>by simp[dX] at h
 |some j::r,come,z,h,J=>by
  have U:=J j (by simp)
  rw[dX] at h;have step:∀n,ke (come.getD j none) (some n)->ke (some k) (some n)->dX (come.set j (some n)) k r=some z->
   z.length=come.length/\(∀t∈some j::r,∃j,t=some j)/\(∀i,some i∈some j::r->ke (some k) (z.getD i none))/\(∀i,some i∉some j::r->z.getD i none=come.getD i none)/\(∀i,ke (come.getD i none) (z.getD i none)):=by
   intro n V Y h3;obtain⟨a1,a2,a3,a4,a5⟩:=Bn h3 (λi D=>by simpa using J i (by simp[D]))
   refine⟨by simpa using a1,?_,?_,?_,?_⟩
   ·intro t O;rcases Ra.1 O with rfl|O
    ·exact⟨j,rfl⟩
    exact a2 t O
   ·intro i D;by_cases E:some i∈r
    ·exact a3 i E
    have e:i=j:=by
     rcases Ra.1 D with h|h
     ·simpa using h
     exact absurd h E
    subst e;rw[a4 i E,cQ U];exact Y
   ·intro i D;have Z:some i∉r:=λh=>D (by simp[h])
    have h5:j≠i:=λh=>D (by simp[h])
    rw[a4 i Z,getD_set_ne h5]
   intro i;refine ke.trans ?_ (a5 i);by_cases e:j=i
   ·subst e;rw[cQ U];exact V
   rw[getD_set_ne e];exact ke.refl _
  cases I:come.getD j none with
  |none=>
   rw[I] at h;exact step k (by rw[I];intro k h;simp at h) (ke.refl _) h
  |some a=>
   rw[I] at h;simp only[] at h;by_cases R:a.st=k.st
   ·rw[Qo R] at h;refine step ⟨a.st,im a.cl k.cl⟩ ?_ ?_ h
    ·rw[I];intro q G;simp at G;subst G;exact⟨_,rfl,rfl,GI _ _⟩
    intro q G;simp at G;subst G;exact⟨_,rfl,R,Ds _ _⟩
   rw[Qj R] at h;simp at h
def Good (ins:List ek) (z R:Nat) (C:Nat->Option Kn):Prop:=
 ∀i,R<=i->i<ins.length-> ∀k,C i=some k-> ∃D,eo (ins.getD i cH).op (ins.getD i cH).n.toNat k=some D/\D.st.length<=z/\
  ∀t∈ff ins i (ins.getD i cH),∃j,t=some j/\i<j/\j<ins.length/\ke (some D) (C j)
theorem th {b:LB} {ins} (h:fg b ins) (G:i<ins.length) (z:some j∈ff ins i (ins.getD i cH)):i<j/\j<ins.length:=by
 have D:some j=(if i+1<ins.length then some (i+1) else none)->i<j/\j<ins.length:=λe=>by
  split at e
  ·simp at e;omega
  simp at e
 have E:some j=gn ins (ins.getD i cH)->i<j/\j<ins.length:=λe=>by
  have:=vQ h G e.symm;omega
 unfold ff at z;split at z
 ·simp only[Ra,RQ,Tn] at z;rcases z with z|z
  ·exact D z
  exact E z
 split at z
 ·simp only[Ra,RQ,Tn] at z;exact E z
 split at z
 ·simp at z
 simp only[Ra,RQ,Tn] at z;exact D z
theorem GJ {b:LB} {ins:List ek} (h:fg b ins) (D):∀m i come,ins.length - i=m->come.length=ins.length->jw ins D (ins.drop i) i come=true->
 ∃C,(∀j,j<=i->C j=come.getD j none)/\(∀j,ke (come.getD j none) (C j))/\Good ins D i C:=by
 intro m;induction m with
 |zero=>
  intro i come Z O _;exact⟨λj=>come.getD j none,λ_ _=>rfl,λ_=>ke.refl _,λj h1 R=>by omega⟩
 |succ m ih=>
  intro i come Z O z;have I:i<ins.length:=by omega
  have hd:ins.drop i=ins.getD i cH::ins.drop (i+1):=by rw[QF I,Qi,Ql I];rfl
  rw[hd,jw] at z;cases U:come.getD i none with
  |none=>
   rw[U] at z;obtain⟨C,c1,c2,c3⟩:=ih (i+1) come (by omega) O z
   refine⟨C,λj J=>c1 j (by omega),c2,λj h1 R k E=>?_⟩
   by_cases e:j=i
   ·subst e;rw[c1 j (by omega),U] at E;simp at E
   exact c3 j (by omega) R k E
  |some k=>
   rw[U] at z;simp only[] at z;cases E:eo (ins.getD i cH).op (ins.getD i cH).n.toNat k with
   |none=>rw[E] at z;simp at z
   |some k'=>
    rw[E] at z;simp only[] at z;by_cases Y:D<k'.st.length
    ·rw[Qo Y] at z;simp at z
    rw[Qj Y] at z;cases hb:dX come k' (ff ins i (ins.getD i cH)) with
    |none=>rw[hb] at z;simp at z
    |some G=>
     rw[hb] at z;simp only[] at z;obtain⟨a1,a2,a3,a4,a5⟩:=Bn hb (λj J=>by rw[O];exact(th h I J).2)
     obtain⟨C,c1,c2,c3⟩:=ih (i+1) G (by omega) (by rw[a1];exact O) z
     have keep:∀j,j<=i->G.getD j none=come.getD j none:=λj J=>a4 j λZ=>by have:=(th h I Z).1;omega
     refine⟨C,λj J=>(c1 j (by omega)).trans (keep j J),λj=>(a5 j).trans (c2 j),λj h1 R q V=>?_⟩
     by_cases e:j=i
     ·subst e;rw[c1 j (by omega),keep j (by omega),U] at V
      simp at V;subst V;refine⟨k',E,by omega,λt ht=>?_⟩
      obtain⟨j2,rfl⟩:=a2 t ht;obtain⟨f1,f2⟩:=th h I ht;exact⟨j2,rfl,f1,f2,(a3 j2 ht).trans (c2 j2)⟩
     exact c3 j (by omega) R q V
def pj (t:Nat) (v:Int):Prop:=dn v/\(t=2->v=0\/v=1)
theorem mu (t:Nat) (b:Bool):pj t (cT b):=by
 unfold cT pj dn;cases b<;>simp
def jG:List Nat->List Int->Prop
 |[],[]=>True
 |t::ts,v::vs=>pj t v/\jG ts vs
 |_,_=>False
theorem jG.len:∀{ts:List Nat} {vs:List Int},jG ts vs->vs.length=ts.length
 |[],[],_=>rfl
 |_::_,_::_,h=>by simp[jG.len h.2]
 |[],_::_,h=>h.elim
 |_::_,[],h=>h.elim
theorem jG.cons {t ts vs} (h:jG (t::ts) vs):∃v r,vs=v::r/\pj t v/\jG ts r:=by
 cases vs with
 |nil=>exact h.elim
 |cons v r=>exact⟨v,r,rfl,h.1,h.2⟩
def zF (ts:List Nat) (cl:List Int):Prop:= ∀c,ts.getD c 0≠0->pj (ts.getD c 0) (cl.getD c 0)
theorem zF.less {cl:List Int} (h:zF b cl) (D:J3 a b):zF a cl:=λc z=>by
 have e:=D c z;rw[e] at z⊢;exact h c z
def dL (fl:List Int):Prop:= ∀n,n<=8->pj (fL n) (fl.getD n 0)
structure J4 (cells:Nat) (x:ek):Prop where
 op:1<=x.op/\x.op<=18
 int:x.op=1->dn x.n
 two:cG x.op=2->0<=x.n/\x.n<=dE x.op cells/\x.n<=255
 jump:cG x.op=3->0<=x.n/\x.n<=65535
theorem kf {b:LB} {x:ek} (h:rY b x):J4 (cr b 2) x:=by
 have D:x.n=nI b x.op x.pl:=by have:=h.here;rw[this];rfl
 have E:cG x.op=2->x.n=(cr b (x.pl+1)):=λz=>by
  rw[D];unfold nI;rw[Qj (by intro e;rw[e] at z;simp[cG] at z),z]
  simp[fb]
 refine⟨zD h.size,λG=>?_,λz=>?_,λz=>?_⟩
 ·rw[D];unfold nI;rw[Qo G];exact GH (by have:=ph b (x.pl+1) 8;omega)
 ·have:=h.bound z;have:=eS b (x.pl+1);rw[E z];omega
 rw[D];unfold nI;rw[Qj (by intro e;rw[e] at z;simp[cG] at z),z]
 have:=ph b (x.pl+1) 2;simp only[Nat.reduceSub];omega
theorem J5 (z t:Nat) (a b:Int) (h:z=7\/z=8->t≠2):pj t (kS z a b):=by
 unfold kS;by_cases D:z=7
 ·rw[Qo D];exact⟨nB _,λe=>absurd e (h (.inl D))⟩
 rw[Qj D];by_cases E:z=8
 ·rw[Qo E];exact⟨nB _,λe=>absurd e (h (.inr E))⟩
 rw[Qj E];(repeat' split)<;>exact mu _ _
structure uE (k:Kn) (cells) (st cl:List Int):Prop where
 typ:jG k.st st
 cel:zF k.cl cl
 len:cl.length=cells
theorem kg {z more:List Nat} {k D:Kn} (h:kD z more k=some D):k.st=z++k.st.drop z.length/\D=⟨more++k.st.drop z.length,k.cl⟩:=by
 unfold kD at h;by_cases e:k.st.take z.length=z
 ·rw[Qo e] at h;simp at h;refine⟨?_,h.symm⟩
  conv=>lhs;rw[<-Sw z.length k.st,e]
 rw[Qj e] at h;simp at h
theorem ti {cells} (hx:J4 cells x) (hF:dL fl) (h:uE k cells st cl) (z:eo x.op x.n.toNat k=some k') (ah: ¬(x.op=17\/x.op=18)):
 ∃st' cl' j,iP fl x st cl=some (st',cl',j)/\uE k' cells st' cl'/\(j=true->x.op=15\/x.op=16)/\(x.op=16->j=true):=by
 obtain⟨Y,Z⟩:=k;obtain⟨D,E,G⟩:=h;simp only[] at D E;have ai:=hx.op;unfold eo at z;unfold iP;simp only[] at z
 by_cases h1:x.op=1
 ·rw[Qo h1] at z;simp at z;subst z
  rw[Qo (.inl h1)];exact⟨_,_,_,rfl,⟨⟨⟨hx.int h1,λe=>by simp at e⟩,D⟩,E,G⟩,by simp,by omega⟩
 rw[Qj h1] at z
 by_cases h2:x.op=2
 ·rw[Qo h2] at z;simp at z;subst z
  rw[Qo (.inr (.inl h2))];have hb:=hx.two (by rw[h2];rfl)
  have e:dE x.op cells=1:=by unfold dE;rw[Qo h2]
  exact⟨_,_,_,rfl,⟨⟨⟨by unfold dn;omega,λ_=>by omega⟩,D⟩,E,G⟩,by simp,by omega⟩
 rw[Qj h2] at z
 by_cases h3:x.op=3
 ·rw[Qo h3] at z;simp at z;subst z
  rw[Qo (.inr (.inr h3))];have hb:=hx.two (by rw[h3];rfl)
  exact⟨_,_,_,rfl,⟨⟨⟨by unfold dn;omega,λe=>by simp at e⟩,D⟩,E,G⟩,by simp,by omega⟩
 rw[Qj h3] at z;rw[Qj (by omega)]
 by_cases h4:x.op=4
 ·rw[Qo h4] at z;simp at z;subst z
  rw[Qo h4];have hb:=hx.two (by rw[h4];rfl)
  have e:dE x.op cells=8:=by rw[h4];rfl
  exact⟨_,_,_,rfl,⟨⟨hF _ (by omega),D⟩,E,G⟩,by simp,by omega⟩
 rw[Qj h4] at z⊢
 by_cases h5:x.op=5
 ·rw[Qo h5] at z
  rw[Qo h5];have hb:=hx.two (by rw[h5];rfl)
  have e:dE x.op cells=cells - 1:=by rw[h5];rfl
  cases Y with
  |nil=>simp at z
  |cons t r=>
   simp at z;subst z
   obtain⟨v,q,rfl,hv,O⟩:=D.cons;refine⟨_,_,_,rfl,⟨O,λc U=>?_,by simpa using G⟩,by simp,by omega⟩
   simp only[] at U⊢
   by_cases he:x.n.toNat=c
   ·subst he
    by_cases ab:x.n.toNat<Z.length
    ·rw[cQ ab,cQ (by omega)];exact hv
    ·exfalso;apply U
     rw[Qi,QC (by simpa using ab)];rfl
   ·rw[getD_set_ne he] at U⊢
    rw[getD_set_ne he];exact E c U
 rw[Qj h5] at z⊢
 by_cases h6:x.op=6
 ·rw[Qo h6] at z
  rw[Qo h6]
  by_cases hz:Z.getD x.n.toNat 0=0
  ·rw[Qo hz] at z;simp at z
  ·rw[Qj hz] at z;simp only[QE] at z;subst z
   exact⟨_,_,_,rfl,⟨⟨E _ hz,D⟩,E,G⟩,by simp,by omega⟩
 rw[Qj h6] at z⊢;have two:∀{a b c:Nat} {r:List Nat},Y=a::b::r->k'=⟨c::r,Z⟩->(x.op=7\/x.op=8->c≠2)-> ∃st' cl' j,(match st with
  |b::a::r=>some (kS x.op a b::r,cl,false)
  |_=>none)=some (st',cl',j)/\uE k' cells st' cl'/\(j=true->x.op=15\/x.op=16):=by
  intro a b c r I J U
  subst I;subst J
  obtain⟨v,q,rfl,hv,O⟩:=D.cons;obtain⟨u,q,rfl,hu,O⟩:=O.cons;exact⟨_,_,_,rfl,⟨⟨J5 _ _ _ _ U,O⟩,E,G⟩,by simp⟩
 have R:∀{a b c:Nat} {r:List Nat},x.op≠12->x.op≠15->x.op≠16->Y=a::b::r->k'=⟨c::r,Z⟩->(x.op=7\/x.op=8->c≠2)-> ∃st' cl' j,(if x.op=12 then(match st with
  |[]=>none
  |v::r=>some ((1 - v)::r,cl,false))
 else if x.op=15 then(match st with
  |[]=>none
  |v::r=>some (r,cl,v==0))
 else if x.op=16 then some (st,cl,true)
 else(match st with
  |b::a::r=>some (kS x.op a b::r,cl,false)
  |_=>none))=some (st',cl',j)/\uE k' cells st' cl'/\(j=true->x.op=15\/x.op=16)/\(x.op=16->j=true):=by
  intro a b c r n1 n2 n3 I J U;rw[Qj n1,Qj n2,Qj n3];obtain⟨s',c',j,q1,q2,q3⟩:=two I J U;exact⟨s',c',j,q1,q2,q3,λe=>absurd e n3⟩
 by_cases h7:x.op=7\/x.op=8
 ·rw[Qo h7] at z
  obtain⟨I,J⟩:=kg z;exact R (by omega) (by omega) (by omega) I J (λ_=>by decide)
 rw[Qj h7] at z
 by_cases h9:x.op=9
 ·rw[Qo h9] at z
  match Y,z with
  |[],z=>simp at z
  |[_],z=>simp at z
  |a::b::r,z=>
   simp only[] at z
   by_cases he:a=b
   ·rw[Qo he] at z;simp at z
    exact R (by omega) (by omega) (by omega) rfl z.symm (λe=>absurd e h7)
   ·rw[Qj he] at z;simp at z
 rw[Qj h9] at z
 by_cases ac:x.op=10\/x.op=11
 ·rw[Qo ac] at z
  obtain⟨I,J⟩:=kg z;exact R (by omega) (by omega) (by omega) I J (λe=>absurd e h7)
 rw[Qj ac] at z
 by_cases aa:x.op=12
 ·rw[Qo aa] at z
  rw[Qo aa];obtain⟨I,J⟩:=kg z;simp only[] at I J;rw[I] at D;subst J;obtain⟨v,q,rfl,hv,O⟩:=jG.cons D;have:=hv.2 rfl;refine⟨_,_,_,rfl,⟨⟨⟨by unfold dn;omega,λ_=>by omega⟩,O⟩,E,G⟩,by simp,by omega⟩
 rw[Qj aa] at z
 by_cases ad:x.op=13\/x.op=14
 ·rw[Qo ad] at z
  obtain⟨I,J⟩:=kg z;exact R (by omega) (by omega) (by omega) I J (λe=>absurd e h7)
 rw[Qj ad] at z;rw[Qj aa]
 by_cases V:x.op=15
 ·rw[Qo V] at z
  rw[Qo V];obtain⟨I,J⟩:=kg z;simp only[] at I J;rw[I] at D;subst J;obtain⟨v,q,rfl,hv,O⟩:=jG.cons D;exact⟨_,_,_,rfl,⟨O,E,G⟩,λ_=> .inl V,by omega⟩
 rw[Qj V] at z;simp at z;subst z
 rw[Qj V,Qo (by omega)]
 exact⟨_,_,_,rfl,⟨D,E,G⟩,λ_=> .inr (by omega),λ_=>rfl⟩
theorem zG {ins} {i:Nat} (I:j=true->x.op=15\/x.op=16) (E:x.op=16->j=true) (G: ¬(x.op=17\/x.op=18)):(if j then gn ins x else(if i+1<ins.length then some (i+1) else none))∈ff ins i x:=by
 unfold ff;cases j with
 |true=>
  rcases I rfl with h|h
  ·rw[Qo h];simp
  rw[Qj (by omega),Qo h];simp
 |false=>
  have J:x.op≠16:=λe=>by simpa using E e
  by_cases h:x.op=15
  ·rw[Qo h];simp
  rw[Qj h,Qj J,Qj G];simp
theorem NP {b:LB} {ins cells} (h:fg b ins) (hc:cr b 2=cells) (hF:dL fl) (hG:Good ins E 0 C):∀m i st cl n k,ins.length - i<=m->i<ins.length->C i=some k->uE k cells st cl->
 ∃a r s,rX ins fl m i st cl n=some (a,r,s)/\n<s/\s<=n+(ins.length - i)/\r<=255:=by
 intro m;induction m with
 |zero=>intro i st cl n k h1 G;omega
 |succ m ih=>
  intro i st cl n k hm I hk R;rw[rX,Qo I];have J:=kf (h.each _ (gY I));rw[hc] at J;by_cases z:(ins.getD i cH).op=17\/(ins.getD i cH).op=18
  ·rw[Qo z];have G:=J.two (by rcases z with e|e<;>rw[e]<;>rfl)
   exact⟨_,_,_,rfl,by omega,by omega,by omega⟩
  rw[Qj z];obtain⟨k',hd,aa,hl⟩:=hG i (by omega) I k hk
  obtain⟨st',cl',j,hs,D,hj,U⟩:=ti J hF R hd z;rw[hs];have V:=zG (ins:=ins) (i:=i) hj U z;obtain⟨q,e,h1,G,h3⟩:=hl _ V;obtain⟨Y,e2,e3,e4⟩:=h3 k' rfl;have O:uE Y cells st' cl':=⟨by rw[e3];exact D.typ,D.cel.less e4,D.len⟩
  obtain⟨a,r,s,Z,i2,i3,i4⟩:=ih q st' cl' (n+1) Y (by omega) G e2 O
  cases j with
  |true=>
   have e:gn ins (ins.getD i cH)=some q:=e;simp only[];rw[e];exact⟨a,r,s,Z,by omega,by omega,i4⟩
  |false=>
   have e:(if i+1<ins.length then some (i+1) else none)=some q:=e;split at e
   ·simp at e;subst e;exact⟨a,r,s,Z,by omega,by omega,i4⟩
   simp at e
theorem pX (cells n:Nat) (h:0<n):(iX cells n).length=n:=by simp[iX];omega
theorem mw {b:LB} {ins:List ek} (h:fD b=some ins):4<=b.length/\b.length<=4000/\fg b ins/\0<ins.length/\ins.length<=b.length/\cr b 1<=24/\ ∃C:Nat->Option Kn,C 0=some ⟨[],List.replicate (cr b 2) 0⟩/\Good ins (cr b 1) 0 C:=by
 unfold fD at h;by_cases I:b.length<4\/4000<b.length\/cr b 0≠71\/24<cr b 1
 ·rw[Qo I] at h;simp at h
 rw[Qj I] at h;cases D:qM (b.length+1) b 3 with
 |none=>rw[D] at h;simp at h
 |some q=>
  rw[D] at h;simp only[] at h;by_cases E:jw q (cr b 1) q 0 (iX (cr b 2) q.length)=true
  ·rw[Qo E] at h;simp at h;subst h;obtain⟨J,G⟩:=zE _ D (by omega)
   have O:fg b q:=⟨J,G⟩;have ab:=(nJ (λx Z=>(J x Z).size) G).1
   have z:0<q.length:=by
    cases q with
    |nil=>unfold oh at G;omega
    |cons x r=>simp
   obtain⟨C,c1,c2,c3⟩:=GJ O (cr b 1) _ 0 (iX (cr b 2) q.length) rfl (pX _ _ z) E;exact⟨by omega,by omega,O,z,by omega,by omega,C,(c1 0 (Qn _)).trans rfl,c3⟩
  rw[Qj E] at h;simp at h
def mN (b:List UInt8) (ins:List ek) (fl:List Int):Option (Bool×Nat×Nat):=rX ins fl ins.length 0 [] (List.replicate (cr b 2) 0) 0
theorem J6 {b:LB} {ins} (h:fD b=some ins) (z:dL fl):∃a r s,mN b ins fl=some (a,r,s)/\0<s/\s<=b.length/\r<=255:=by
 obtain⟨R,U,h3,D,V,Y,C,E,G⟩:=mw h;obtain⟨a,r,s,e,I,Z,J⟩:=NP h3 rfl z G ins.length 0 [] (List.replicate (cr b 2) 0) 0 _ (by omega) D E ⟨trivial,λc O=>by
  exfalso;apply O;simp[Qi,Q8];split<;>rfl,by simp⟩
 exact⟨a,r,s,e,I,by omega,J⟩
structure Tr where
 k:Nat
 n:Int
 l:Int
 kids:List Tr
def fQ:Tr:=⟨0,0,0,[]⟩
def Tr.kid (t:Tr) (j:Nat):Tr:=t.kids.getD j fQ
def dJ (k:Nat):Prop:=k=1\/k=2\/(20<=k/\k<=35)
def fW (k:Nat):Prop:=k=6\/k=7\/k=8\/k=9\/k=10\/k=17\/k=18
def NQ (t:Tr):Prop:=(dJ t.k/\t.kids=[]/\(t.k=1->dn t.n)/\(t.k=2->0<=t.l))\/(t.k=19/\ ∃a,t.kids=[a])\/(t.k=14/\ ∃a b c,t.kids=[a,b,c])\/(fW t.k/\ ∃a b,t.kids=[a,b])
def gU:Nat->Tr->Prop
 |0,_=>False
 |d+1,t=>NQ t/\ ∀c∈t.kids,gU d c
def dY (lt:List Nat) (t:Tr):Nat:=if t.k=1 then 1 else if t.k=2 then lt.getD t.l.toNat 0 else if 27<=t.k then fL (t.k - 27) else if 22<=t.k then 3 else 2
def eD (k:Nat):List Nat->Nat
 |[a]=>if a=2 then 2 else 0
 |[a,b]=>if k=6\/k=7 then(if a=1/\b=1 then 1 else 0) else if k=9\/k=10 then(if a=1/\b=1 then 2 else 0) else if k=8 then(if a=b/\a≠0 then 2 else 0) else(if a=2/\b=2 then 2 else 0)
 |[a,b,c]=>if a=2/\b=c then b else 0
 |_=>0
def cR (lt:List Nat):Nat->Tr->Nat
 |0,_=>0
 |d+1,t=>if t.kids=[] then dY lt t else eD t.k (t.kids.map (cR lt d))
def kT (fl:List Int) (k:Nat):Int:=if 27<=k then fl.getD (k - 27) 0 else if 22<=k then((k - 22:Nat):Int) else cT (decide (k=20))
def iq (lv fl:List Int) (t:Tr):Int:=if t.k=1 then t.n else if t.k=2 then lv.getD t.l.toNat 0 else kT fl t.k
def vR (k:Nat) (a b:Int):Int:=
 if k=6 then eW (a+b) else if k=7 then eW (a - b) else if k=8 then cT (a==b) else if k=10 then cT (decide (a<b))
 else if k=9 then cT (decide (a<=b)) else if k=18 then cT (a==1&&b==1) else cT (a==1||b==1)
def Bo (k:Nat) (w:Int):List Int->Int
 |[]=>w
 |[a]=>1 - a
 |[a,b]=>vR k a b
 |a::b::c::_=>if a=1 then b else c
def fT (lv fl:List Int):Nat->Tr->Int
 |0,_=>0
 |d+1,t=>Bo t.k (iq lv fl t) (t.kids.map (fT lv fl d))
def eP:Nat->Tr->Nat
 |0,_=>0
 |d+1,t=>1+(t.kids.map (eP d)).sum
theorem gU.up {d:Nat}:∀{t},gU d t-> ∀{e:Nat},d<=e->gU e t:=by
 induction d with
 |zero=>intro t h;exact h.elim
 |succ d ih=>
  intro t h e D;obtain⟨e,rfl⟩:∃q,e=q+1:=⟨e - 1,by omega⟩
  exact⟨h.1,λc z=>ih (h.2 c z) (by omega)⟩
theorem pn {d:Nat}:∀{t},gU d t-> ∀{e},d<=e->fT lv fl e t=fT lv fl d t:=by
 induction d with
 |zero=>intro t h;exact h.elim
 |succ d ih=>
  intro t h e D;obtain⟨e,rfl⟩:∃q,e=q+1:=⟨e - 1,by omega⟩
  rw[fT,fT,QY λc z=>ih (h.2 c z) (by omega)]
theorem mO {lt} {d:Nat}:∀{t},gU d t-> ∀{e},d<=e->cR lt e t=cR lt d t:=by
 induction d with
 |zero=>intro t h;exact h.elim
 |succ d ih=>
  intro t h e D;obtain⟨e,rfl⟩:∃q,e=q+1:=⟨e - 1,by omega⟩
  rw[cR,cR,QY λc z=>ih (h.2 c z) (by omega)]
theorem pY {d:Nat}:∀{t},gU d t-> ∀{e:Nat},d<=e->eP e t=eP d t:=by
 induction d with
 |zero=>intro t h;exact h.elim
 |succ d ih=>
  intro t h e D;obtain⟨e,rfl⟩:∃q,e=q+1:=⟨e - 1,by omega⟩
  rw[eP,eP,QY λc z=>ih (h.2 c z) (by omega)]
theorem J7 (k t:Nat) (a b:Int) (h:k=6\/k=7->t≠2):pj t (vR k a b):=by
 unfold vR;by_cases z:k=6
 ·rw[Qo z];exact⟨nB _,λe=>absurd e (h (.inl z))⟩
 rw[Qj z];by_cases D:k=7
 ·rw[Qo D];exact⟨nB _,λe=>absurd e (h (.inr D))⟩
 rw[Qj D];(repeat' split)<;>exact mu _ _
def lH (lt:List Nat) (lv:List Int):Prop:= ∀i,lt.getD i 0≠0->pj (lt.getD i 0) (lv.getD i 0)
theorem GK {lt} (I:lH lt lv) (J:dL fl) (O:dJ t.k) (R:t.k=1->dn t.n) (z:dY lt t≠0):pj (dY lt t) (iq lv fl t):=by
 unfold dY iq kT at*;by_cases D:t.k=1
 ·rw[Qo D,Qo D];exact⟨R D,λe=>by simp at e⟩
 rw[Qj D] at z⊢;rw[Qj D];by_cases E:t.k=2
 ·rw[Qo E] at z⊢;rw[Qo E];exact I _ z
 rw[Qj E,Qj E];by_cases h3:27<=t.k
 ·rw[Qo h3,Qo h3];unfold dJ at O;exact J _ (by omega)
 rw[Qj h3,Qj h3];by_cases G:22<=t.k
 ·rw[Qo G,Qo G];exact⟨by unfold dn;omega,λe=>by simp at e⟩
 rw[Qj G,Qj G];exact mu _ _
theorem tm {lt} (U:lH lt lv) (V:dL fl):∀{t},gU d t->cR lt d t≠0->pj (cR lt d t) (fT lv fl d t):=by
 induction d with
 |zero=>intro t h;exact h.elim
 |succ d ih=>
  intro t h z;rw[cR] at z⊢;rw[fT];rcases h.1 with⟨G,D,Y,_⟩|⟨G,a,D⟩|⟨G,a,b,c,D⟩|⟨G,a,b,D⟩
  ·rw[Qo D] at z⊢;rw[D];exact GK U V G Y z
  ·rw[D] at z⊢;rw[Qj (by simp)] at z⊢
   simp only[QL,Q9,eD,Bo] at z⊢;split at z
   ·rename_i E;rw[Qo E];have:=(ih (h.2 a (by rw[D];simp)) (by omega)).2 E
    exact⟨by unfold dn;omega,λ_=>by omega⟩
   exact absurd rfl z
  ·rw[D] at z⊢;rw[Qj (by simp)] at z⊢
   simp only[QL,Q9,eD,Bo] at z⊢;split at z
   ·rename_i E;rw[Qo E];split
    ·exact ih (h.2 b (by rw[D];simp)) z
    rw[E.2] at z⊢;exact ih (h.2 c (by rw[D];simp)) z
   exact absurd rfl z
  rw[D] at z⊢;rw[Qj (by simp)] at z⊢
  simp only[QL,Q9,eD,Bo] at z⊢;refine J7 _ _ _ _ λZ=>?_
  rw[Qo Z];split<;>decide
structure mW where
 inl:Bool
 fol:Bool
 pru:Bool
 jmp:Bool
def fE:Nat->Tr->Bool
 |0,_=>true
 |d+1,t=>decide (27<=t.k/\t.k<=35)||decide (t.k=2)||t.kids.any (fE d)
def oi (lets:List Tr) (c:Tr):Tr:=if c.k=2/\(lets.getD c.l.toNat fQ).kids=[] then lets.getD c.l.toNat fQ else c
def pZ (c:Tr):Tr:=if(c.kid 0).k=20 then c.kid 1 else if(c.kid 0).k=21 then c.kid 2 else c
def jH:List Int:=[0,0,0,0,0,0,0,0,0]
def mx (d:Nat) (c:Tr):Tr:=
 if c.k=14 then pZ c else if fE d c=true\/c.kids=[] then c
 else if c.k=6\/c.k=7 then⟨1,fT [] jH d c,0,[]⟩ else if fT [] jH d c=1 then⟨20,0,0,[]⟩ else⟨21,0,0,[]⟩
def jC (c:Tr) (s i:Nat):Tr:=if(c.kid 0).k=s\/(c.kid 1).k=i then c.kid 0 else if(c.kid 1).k=s\/(c.kid 0).k=i then c.kid 1 else c
def iM (c:Tr):Tr:=
 if c.k=19 then(if(c.kid 0).k=19 then(c.kid 0).kid 0 else c) else if c.k=18 then jC c 21 20 else if c.k=17 then jC c 20 21 else c
def No (p:mW) (lets:List Tr) (d:Nat) (c:Tr):Tr:=
 let c:=if p.inl then oi lets c else c
 let c:=if p.fol then mx d c else c
 if p.pru then iM c else c
def kF (p:mW) (lets:List Tr):Nat->Tr->Tr
 |0,t=>t
 |d+1,t=>No p lets (d+1) ⟨t.k,t.n,t.l,t.kids.map (kF p lets d)⟩
structure vS (p:mW) (lets:List Tr) (lt lt':List Nat) (lv lv' fl:List Int):Prop where
 one:∀i,lt.getD i 0≠0->p.inl=true->(lets.getD i fQ).kids=[]->gU 1 (lets.getD i fQ)/\cR lt' 1 (lets.getD i fQ)=lt.getD i 0/\fT lv' fl 1 (lets.getD i fQ)=lv.getD i 0
 same:∀i,lt.getD i 0≠0-> ¬(p.inl=true/\(lets.getD i fQ).kids=[])->lt'.getD i 0=lt.getD i 0/\lv'.getD i 0=lv.getD i 0
structure Alike (lt lt') (lv lv' fl:List Int) (d) (t t'):Prop where
 wf:gU d t'
 ty:cR lt' d t'=cR lt d t
 ev:fT lv' fl d t'=fT lv fl d t
 cnt:eP d t'<=eP d t
theorem rZ {t:Tr} (h:gU d t):1<=eP d t:=by
 cases d with
 |zero=>exact h.elim
 |succ d=>rw[eP];omega
theorem J8 {d:Nat}:∀{t:Tr},gU d t->fE d t=false->fT lv fl d t=fT lv' G d t:=by
 induction d with
 |zero=>intro t h;exact h.elim
 |succ d ih=>
  intro t h D;rw[fE] at D;simp only[S8,SQ] at D;rw[fT,fT,QY λc I=>ih (h.2 c I) (by
   have:=D.2;rw[List.any_eq_false] at this;have:=this c I;simpa using this)]
  congr 1;have z: ¬27<=t.k:=λz=>D.1.1 ⟨z,by
   rcases h.1 with⟨E,_⟩|⟨E,_⟩|⟨E,_⟩|⟨E,_⟩
   ·unfold dJ at E;omega
   ·omega
   ·omega
   unfold fW at E;omega⟩
  unfold iq kT;rw[Qj D.1.2,Qj D.1.2,Qj z,Qj z]
theorem Alike.refl {lt lv fl d t} (h:gU d t):Alike lt lt lv lv fl d t t:=⟨h,rfl,rfl,Qn _⟩
theorem Alike.trans {lt lt' z lv lv' D fl d t u v} (G:Alike lt lt' lv lv' fl d t u) (E:Alike lt' z lv' D fl d u v):Alike lt z lv D fl d t v:=
 ⟨E.wf,E.ty.trans G.ty,E.ev.trans G.ev,QV E.cnt G.cnt⟩
theorem oj {t:Tr} (h:gU d t) (D:dJ t.k):t.kids=[]:=by
 cases d with
 |zero=>exact h.elim
 |succ d=>
  unfold dJ at D;rcases h.1 with⟨_,z,_⟩|⟨z,_⟩|⟨z,_⟩|⟨z,_⟩
  ·exact z
  ·omega
  ·omega
  unfold fW at z;omega
theorem qa (h:gU d t) (z:t.k=20):fT lv fl d t=1:=by
 cases d with
 |zero=>exact h.elim
 |succ d=>
  have D:=oj h (by unfold dJ;omega)
  rw[fT,D];show iq lv fl t=1;unfold iq kT;rw[z];rfl
theorem nK (h:gU d t) (z:t.k=21):fT lv fl d t=0:=by
 cases d with
 |zero=>exact h.elim
 |succ d=>
  have D:=oj h (by unfold dJ;omega)
  rw[fT,D];show iq lv fl t=0;unfold iq kT;rw[z];rfl
theorem vT {n:Nat}:∀{l:List Nat},n∈l->n<=l.sum
 |[],h=>by simp at h
 |x::l,h=>by
  rcases Ra.1 h with rfl|h
  ·simp
  have:=vT h;simp only[SR];omega
theorem qb {lt} (h:gU (d+1) t) (E:a∈t.kids) (G:cR lt (d+1) t=cR lt d a) (I:fT lv fl (d+1) t=fT lv fl d a):Alike lt lt lv lv fl (d+1) t a:=by
 have z:=h.2 a E;refine⟨z.up (by omega),by rw[mO z (by omega),G],by rw[pn z (by omega),I],?_⟩
 rw[pY z (by omega),eP]
 have:eP d a<=(t.kids.map (eP d)).sum:=vT (RB E);omega
theorem tq {lt:List Nat} {t a b:Tr} (z:t.kids=[a,b]):cR lt (d+1) t=eD t.k [cR lt d a,cR lt d b]:=by
 rw[cR,z,Qj (by simp)];rfl
theorem NR {lv fl:List Int} {t a b:Tr} (z:t.kids=[a,b]):fT lv fl (d+1) t=vR t.k (fT lv fl d a) (fT lv fl d b):=by
 rw[fT,z];rfl
theorem qN {lt} (hV:lH lt lv) (hF:dL fl) (h:gU (d+1) t) (O:cR lt (d+1) t≠0) (hk:t.k=17\/t.k=18):Alike lt lt lv lv fl (d+1) t (if t.k=18 then jC t 21 20 else jC t 20 21):=by
 obtain⟨a,b,E⟩:∃a b,t.kids=[a,b]:=by
  rcases h.1 with⟨R,_⟩|⟨R,_⟩|⟨R,_⟩|⟨_,R⟩
  ·unfold dJ at R;omega
  ·omega
  ·omega
  exact R
 have G:=h.2 a (by rw[E];simp)
 have I:=h.2 b (by rw[E];simp)
 have e0:t.kid 0=a:=by unfold Tr.kid;rw[E];rfl
 have e1:t.kid 1=b:=by unfold Tr.kid;rw[E];rfl
 have U:=tq (lt:=lt) (d:=d) E;have aa:=NR (lv:=lv) (fl:=fl) (d:=d) E;have V:∀x y,eD t.k [x,y]=if x=2/\y=2 then 2 else 0:=λx y=>by
  simp only[eD];rw[Qj (by omega),Qj (by omega),Qj (by omega)]
 rw[U,V] at O;split at O
 ·rename_i D;have J:=(tm hV hF G (by omega)).2 D.1
  have ab:=(tm hV hF I (by omega)).2 D.2
  have ta:cR lt (d+1) t=cR lt d a:=by rw[U,V,Qo D,D.1]
  have tb:cR lt (d+1) t=cR lt d b:=by rw[U,V,Qo D,D.2]
  have ka:=λe=>qb (lv:=lv) (fl:=fl) h (a:=a) (by rw[E];simp) ta e
  have kb:=λe=>qb (lv:=lv) (fl:=fl) h (a:=b) (by rw[E];simp) tb e
  unfold jC;rw[e0,e1];by_cases Y:t.k=18
  ·rw[Qo Y];have Z:fT lv fl (d+1) t=cT (fT lv fl d a==1&&fT lv fl d b==1):=by rw[aa];unfold vR;rw[Y];rfl
   split
   ·rename_i z;refine ka ?_;rw[Z];rcases z with z|z
    ·rw[nK G z];rfl
    rw[qa I z];rcases J with e|e<;>rw[e]<;>rfl
   split
   ·rename_i z;refine kb ?_;rw[Z];rcases z with z|z
    ·rw[nK I z];rcases J with e|e<;>rw[e]<;>rfl
    rw[qa G z];rcases ab with e|e<;>rw[e]<;>rfl
   exact Alike.refl h
  have ad:t.k=17:=by omega
  rw[Qj Y];have ac:fT lv fl (d+1) t=cT (fT lv fl d a==1||fT lv fl d b==1):=by rw[aa];unfold vR;rw[ad];rfl
  split
  ·rename_i z;refine ka ?_;rw[ac];rcases z with z|z
   ·rw[qa G z];rfl
   rw[nK I z];rcases J with e|e<;>rw[e]<;>rfl
  split
  ·rename_i z;refine kb ?_;rw[ac];rcases z with z|z
   ·rw[qa I z];rcases J with e|e<;>rw[e]<;>rfl
   rw[nK G z];rcases ab with e|e<;>rw[e]<;>rfl
  exact Alike.refl h
 exact absurd rfl O
theorem Bp {lt} (V:lH lt lv) (Y:dL fl) (h:gU (d+1) t) (D:cR lt (d+1) t≠0):Alike lt lt lv lv fl (d+1) t (iM t):=by
 unfold iM;by_cases U:t.k=19
 ·rw[Qo U];obtain⟨a,J⟩:∃a,t.kids=[a]:=by
   rcases h.1 with⟨z,_⟩|⟨_,z⟩|⟨z,_⟩|⟨z,_⟩
   ·unfold dJ at z;omega
   ·exact z
   ·omega
   unfold fW at z;omega
  have O:=h.2 a (by rw[J];simp)
  have e0:t.kid 0=a:=by unfold Tr.kid;rw[J];rfl
  rw[e0];by_cases Z:a.k=19
  ·rw[Qo Z];cases d with
   |zero=>exact O.elim
   |succ d=>
    obtain⟨b,E⟩:∃b,a.kids=[b]:=by
     rcases O.1 with⟨z,_⟩|⟨_,z⟩|⟨z,_⟩|⟨z,_⟩
     ·unfold dJ at z;omega
     ·exact z
     ·omega
     unfold fW at z;omega
    have I:=O.2 b (by rw[E];simp)
    have e1:a.kid 0=b:=by unfold Tr.kid;rw[E];rfl
    rw[e1];have t1:cR lt (d+1+1) t=if cR lt (d+1) a=2 then 2 else 0:=by rw[cR,J,Qj (by simp)];rfl
    have t2:cR lt (d+1) a=if cR lt d b=2 then 2 else 0:=by rw[cR,E,Qj (by simp)];rfl
    have v1:fT lv fl (d+1+1) t=1 - fT lv fl (d+1) a:=by rw[fT,J];rfl
    have v2:fT lv fl (d+1) a=1 - fT lv fl d b:=by rw[fT,E];rfl
    have aa:cR lt d b=2:=by
     rw[t1,t2] at D;by_cases e:cR lt d b=2
     ·exact e
     rw[Qj e] at D;simp at D
    refine⟨I.up (by omega),?_,?_,?_⟩
    ·rw[mO I (by omega),t1,t2,aa];rfl
    ·rw[pn I (by omega),v1,v2];omega
    rw[pY I (by omega),eP,J]
    simp only[QL,Q9,SR,List.sum_nil];rw[eP,E];simp only[QL,Q9,SR,List.sum_nil];omega
  rw[Qj Z];exact Alike.refl h
 rw[Qj U];by_cases G:t.k=18
 ·rw[Qo G];have:=qN V Y h D (.inr G);rw[Qo G] at this;exact this
 rw[Qj G];by_cases R:t.k=17
 ·rw[Qo R];have:=qN V Y h D (.inl R);rw[Qj G] at this;exact this
 rw[Qj R];exact Alike.refl h
theorem zH {lt} (h:gU (d+1) t) (E:cR lt (d+1) t≠0) (aa:t.k=14):Alike lt lt lv lv fl (d+1) t (pZ t):=by
 obtain⟨a,b,c,z⟩:∃a b c,t.kids=[a,b,c]:=by
  rcases h.1 with⟨D,_⟩|⟨D,_⟩|⟨_,D⟩|⟨D,_⟩
  ·unfold dJ at D;omega
  ·omega
  ·exact D
  unfold fW at D;omega
 have O:=h.2 a (by rw[z];simp)
 have V:t.kid 0=a:=by unfold Tr.kid;rw[z];rfl
 have Y:t.kid 1=b:=by unfold Tr.kid;rw[z];rfl
 have Z:t.kid 2=c:=by unfold Tr.kid;rw[z];rfl
 have J:cR lt (d+1) t=if cR lt d a=2/\cR lt d b=cR lt d c then cR lt d b else 0:=by rw[cR,z,Qj (by simp)];rfl
 have R:fT lv fl (d+1) t=if fT lv fl d a=1 then fT lv fl d b else fT lv fl d c:=by rw[fT,z];rfl
 unfold pZ;rw[V,Y,Z];rw[J] at E;split at E
 ·rename_i U;rw[Qo U] at J;by_cases G:a.k=20
  ·rw[Qo G];exact qb h (by rw[z];simp) J (by rw[R,qa O G,Qo rfl])
  rw[Qj G];by_cases I:a.k=21
  ·rw[Qo I];exact qb h (by rw[z];simp) (by rw[J,U.2]) (by rw[R,nK O I,Qj (by decide)])
  rw[Qj I];exact Alike.refl h
 exact absurd rfl E
theorem zI {n:Int} (z:dJ k) (D:k=1->dn n) (E:k≠2):gU (d+1) ⟨k,n,0,[]⟩:=⟨.inl ⟨z,rfl,D,λe=>absurd e E⟩,by simp⟩
theorem om:dL jH:=λn z=>by
 have e:jH.getD n 0=0:=by
  have:n=0\/n=1\/n=2\/n=3\/n=4\/n=5\/n=6\/n=7\/n=8:=by omega
  rcases this with rfl|rfl|rfl|rfl|rfl|rfl|rfl|rfl|rfl<;>rfl
 rw[e];exact⟨by unfold dn;omega,λ_=> .inl rfl⟩
theorem vU {lt} (hV:lH lt lv) (hF:dL fl) (h:gU (d+1) t) (z:cR lt (d+1) t≠0):Alike lt lt lv lv fl (d+1) t (mx (d+1) t):=by
 unfold mx;by_cases G:t.k=14
 ·rw[Qo G];exact zH h z G
 rw[Qj G];by_cases D:fE (d+1) t=true\/t.kids=[]
 ·rw[Qo D];exact Alike.refl h
 rw[Qj D];have hh:fE (d+1) t=false:=by
  cases e:fE (d+1) t with
  |true=>exact absurd (.inl e) D
  |false=>rfl
 have Y:t.kids≠[]:=λe=>D (.inr e)
 have Z:fT lv fl (d+1) t=fT [] jH (d+1) t:=J8 h hh;have I:=tm hV hF h z;have hp:=rZ h;rw[<-Z];by_cases R:t.k=6\/t.k=7
 ·rw[Qo R];have J:cR lt (d+1) t=1:=by
   rcases h.1 with⟨E,_⟩|⟨E,_⟩|⟨E,_⟩|⟨_,a,b,O⟩
   ·unfold dJ at E;omega
   ·omega
   ·omega
   rw[tq O] at z⊢;simp only[eD] at z⊢;rw[Qo R] at z⊢;split at z
   ·rename_i D;rw[Qo D]
   exact absurd rfl z
  refine⟨zI (.inl rfl) (λ_=>I.1) (by decide),?_,?_,?_⟩
  ·rw[J];rfl
  ·rfl
  simp[eP]
 rw[Qj R];have J:cR lt (d+1) t=2:=by
  rcases h.1 with⟨_,E,_⟩|⟨_,a,O⟩|⟨E,_⟩|⟨hk,a,b,O⟩
  ·exact absurd E Y
  ·rw[cR,O,Qj (by simp)] at z⊢
   simp only[QL,Q9,eD] at z⊢;split at z
   ·rename_i D;rw[Qo D]
   exact absurd rfl z
  ·omega
  rw[tq O] at z⊢;simp only[eD] at z⊢;rw[Qj R] at z⊢;split at z
  ·rename_i U;rw[Qo U];split at z
   ·rename_i D;rw[Qo D]
   exact absurd rfl z
  rename_i U;rw[Qj U];split at z
  ·rename_i V;rw[Qo V];split at z
   ·rename_i D;rw[Qo D]
   exact absurd rfl z
  rename_i V;rw[Qj V];split at z
  ·rename_i D;rw[Qo D]
  exact absurd rfl z
 have aa:=I.2 J;by_cases E:fT lv fl (d+1) t=1
 ·rw[Qo E];refine⟨zI (.inr (.inr (by omega))) (λe=>by omega) (by decide),?_,?_,?_⟩
  ·rw[J];rfl
  ·rw[E];rfl
  simp[eP]
 rw[Qj E];refine⟨zI (.inr (.inr (by omega))) (λe=>by omega) (by decide),?_,?_,?_⟩
 ·rw[J];rfl
 ·have:fT lv fl (d+1) t=0:=by omega
  rw[this];rfl
 simp[eP]
theorem rh {α:Type} {f g:α->Nat}:∀{l:List α},(∀x∈l,f x<=g x)->(l.map f).sum<=(l.map g).sum
 |[],_=>Qn _
 |x::l,h=>by
  have D:=h x (by simp)
  have E:=rh (l:=l) (f:=f) (g:=g) λy z=>h y (by simp[z])
  simp only[QL,SR];omega
theorem oq {lt} (h:gU (d+1) t) (z:cR lt (d+1) t≠0):∀c∈t.kids,cR lt d c≠0:=by
 rcases h.1 with⟨_,I,_⟩|⟨_,a,E⟩|⟨_,a,b,c,E⟩|⟨J,a,b,E⟩
 ·rw[I];simp
 ·rw[cR,E,Qj (by simp)] at z
  simp only[QL,Q9,eD] at z;intro x D;rw[E] at D;simp at D;subst D;split at z
  ·omega
  exact absurd rfl z
 ·rw[cR,E,Qj (by simp)] at z
  simp only[QL,Q9,eD] at z;intro x D;rw[E] at D;simp at D;split at z
  ·rename_i G;rcases D with rfl|rfl|rfl
   ·omega
   ·exact z
   rw[<-G.2];exact z
  exact absurd rfl z
 rw[tq E] at z;simp only[eD] at z;intro x D;rw[E] at D;simp at D;split at z
 ·split at z
  ·rcases D with rfl|rfl<;>omega
  exact absurd rfl z
 split at z
 ·split at z
  ·rcases D with rfl|rfl<;>omega
  exact absurd rfl z
 split at z
 ·split at z
  ·rename_i G;rcases D with rfl|rfl
   ·exact G.2
   rw[<-G.1];exact G.2
  exact absurd rfl z
 split at z
 ·rcases D with rfl|rfl<;>omega
 exact absurd rfl z
theorem vV {lt} (Z:vS p lets lt lt' lv lv' fl) (hV:lH lt' lv') (hF:dL fl):∀{t},gU d t->cR lt d t≠0->Alike lt lt' lv lv' fl d t (kF p lets d t):=by
 induction d with
 |zero=>intro t h;exact h.elim
 |succ d ih=>
  intro t h G;rw[kF];have ab:=oq h G;have I:∀c∈t.kids,Alike lt lt' lv lv' fl d c (kF p lets d c):=λc D=>ih (h.2 c D) (ab c D)
  have ac:(t.kids.map (kF p lets d)).map (cR lt' d)=t.kids.map (cR lt d):=by
   rw[R3];exact QY λc D=>(I c D).ty
  have ad:(t.kids.map (kF p lets d)).map (fT lv' fl d)=t.kids.map (fT lv fl d):=by
   rw[R3];exact QY λc D=>(I c D).ev
  have ae:gU (d+1) ⟨t.k,t.n,t.l,t.kids.map (kF p lets d)⟩:=by
   refine⟨?_,λc D=>?_⟩
   ·rcases h.1 with⟨E,z,h3,h4⟩|⟨E,a,z⟩|⟨E,a,b,c,z⟩|⟨E,a,b,z⟩
    ·exact .inl ⟨E,by rw[z];rfl,h3,h4⟩
    ·exact .inr (.inl ⟨E,_,by rw[z];rfl⟩)
    ·exact .inr (.inr (.inl ⟨E,_,_,_,by rw[z];rfl⟩))
    exact .inr (.inr (.inr ⟨E,_,_,by rw[z];rfl⟩))
   obtain⟨x,hx,rfl⟩:=RC.1 D;exact(I x hx).wf
  have af:eP (d+1) ⟨t.k,t.n,t.l,t.kids.map (kF p lets d)⟩<=eP (d+1) t:=by
   rw[eP,eP];simp only[R3];have:=rh (l:=t.kids) (f:=eP d∘kF p lets d) (g:=eP d) λc D=>(I c D).cnt
   omega
  have base:(t.k=2->lt'.getD t.l.toNat 0=lt.getD t.l.toNat 0/\lv'.getD t.l.toNat 0=lv.getD t.l.toNat 0)->Alike lt lt' lv lv' fl (d+1) t ⟨t.k,t.n,t.l,t.kids.map (kF p lets d)⟩:=λhl=>by
   refine⟨ae,?_,?_,af⟩
   ·rw[cR,cR];simp only[ac,Te];have e:dY lt' ⟨t.k,t.n,t.l,t.kids.map (kF p lets d)⟩=dY lt t:=by
     unfold dY;simp only[];by_cases E:t.k=1
     ·rw[Qo E,Qo E]
     rw[Qj E,Qj E];by_cases z:t.k=2
     ·rw[Qo z,Qo z,(hl z).1]
     rw[Qj z,Qj z]
    rw[e]
   rw[fT,fT];simp only[ad];congr 1;unfold iq;simp only[];by_cases E:t.k=1
   ·rw[Qo E,Qo E]
   rw[Qj E,Qj E];by_cases z:t.k=2
   ·rw[Qo z,Qo z,(hl z).2]
   rw[Qj z,Qj z]
  have rest:∀c,Alike lt lt' lv lv' fl (d+1) t c->Alike lt lt' lv lv' fl (d+1) t (if p.pru then iM (if p.fol then mx (d+1) c else c) else(if p.fol then mx (d+1) c else c)):=λc D=>by
   have E:Alike lt lt' lv lv' fl (d+1) t (if p.fol then mx (d+1) c else c):=by
    split
    ·exact D.trans (vU hV hF D.wf (by rw[D.ty];exact G))
    exact D
   split
   ·exact E.trans (Bp hV hF E.wf (by rw[E.ty];exact G))
   exact E
  have J:t.k=2->t.kids=[]/\lt.getD t.l.toNat 0≠0:=λz=>by
   have O:=oj h (by unfold dJ;omega)
   refine⟨O,?_⟩;rw[cR,Qo O] at G;unfold dY at G;rwa [Qj (by omega),Qo z] at G
  unfold No;refine rest _ ?_;by_cases R:p.inl=true
  ·rw[Qo R];unfold oi;simp only[];by_cases D:t.k=2/\(lets.getD t.l.toNat fQ).kids=[]
   ·rw[Qo D];obtain⟨O,ag⟩:=J D.1;obtain⟨U,o2,o3⟩:=Z.one _ ag R D.2;refine⟨U.up (by omega),?_,?_,?_⟩
    ·rw[mO U (by omega),o2,cR,Qo O]
     unfold dY;rw[Qj (by omega),Qo D.1]
    ·rw[pn U (by omega),o3,fT,O]
     show _=iq lv fl t;unfold iq;rw[Qj (by omega),Qo D.1]
    rw[pY U (by omega),eP,D.2]
    have:=rZ h;simpa using this
   rw[Qj D];refine base λz=>?_
   exact Z.same _ (J z).2 λe=>D ⟨z,e.2⟩
  rw[Qj R];exact base λz=>Z.same _ (J z).2 λe=>R e.1
structure fM where
 kind:Nat
 wh:Nat
 c:Tr
def tu (p:mW) (d:Nat):List Tr->List fM->List fM
 |_,[]=>[]
 |lets,x::r=>
  if p.inl=true/\x.kind=11/\(kF p lets d x.c).kids=[] then tu p d (if x.kind=11 then lets++[kF p lets d x.c] else lets) r
  else⟨x.kind,x.wh,kF p lets d x.c⟩::tu p d (if x.kind=11 then lets++[kF p lets d x.c] else lets) r
def jy:List fM->List fM
 |[]=>[]
 |x::r=>if x.kind≠11/\x.c.k=21 then jy r else if x.kind≠11/\x.c.k=20 then[x] else x::jy r
def iY:Nat->Tr->List Bool->List Bool
 |0,_,nm=>nm
 |d+1,t,nm=>t.kids.foldl (λa c=>iY d c a) (if t.k=2 then nm.set t.l.toNat true else nm)
def Fe:List Bool:=[false,false,false,false,false,false,false,false,false,false]
def iJ (d:Nat):List fM->List fM×List Bool
 |[]=>([],Fe)
 |x::r=>if x.kind=11/\(iJ d r).2.getD x.wh false=false then iJ d r else(x::(iJ d r).1,iY d x.c (iJ d r).2)
def po (p:mW) (d:Nat) (l:List fM):List fM:=if p.pru then(iJ d (jy (tu p d [] l))).1 else tu p d [] l
def gq (d:Nat) (fl:List Int):List Int->List fM->Bool×Nat
 |_,[]=>(false,0)
 |z,x::r=>if x.kind=11 then gq d fl (z.set x.wh (fT z fl d x.c)) r else if fT z fl d x.c=1 then(decide (x.kind=12),x.wh) else gq d fl z r
def qc (d:Nat):List Nat->List fM->Prop
 |_,[]=>True
 |lt,x::r=>gU d x.c/\cR lt d x.c≠0/\((x.kind=11/\x.wh<lt.length/\qc d (lt.set x.wh (cR lt d x.c)) r)\/((x.kind=12\/x.kind=13)/\cR lt d x.c=2/\x.wh<=255/\qc d lt r))
def ot:Nat->List fM->Prop
 |_,[]=>True
 |m,x::r=>(x.kind=11/\x.wh=m/\ot (m+1) r)\/(x.kind≠11/\ot m r)
def ig (d:Nat) (l:List fM):Nat:=(l.map λx=>eP d x.c).sum
structure r9 (p:mW) (lets:List Tr) (m:Nat) (lt lt') (lv lv' fl):Prop where
 ok:vS p lets lt lt' lv lv' fl
 has:lH lt lv
 has':lH lt' lv'
 len:lets.length=m
 late:∀i,m<=i->lt.getD i 0=0
 llt:lt.length=10
 llt':lt'.length=10
 llv:lv.length=10
 llv':lv'.length=10
 fit':∀i,lt'.getD i 0≠0->i<m
theorem vW {lt} (h:lH lt lv) (D:i<lt.length) (E:i<lv.length) (G:pj t v):lH (lt.set i t) (lv.set i v):=λj z=>by
 by_cases e:i=j
 ·subst e;rw[cQ D,cQ E];exact G
 rw[getD_set_ne e] at z⊢;rw[getD_set_ne e];exact h j z
theorem kh {α:Type} {l:List α} {v d:α} (h:i<l.length):(l++[v]).getD i d=l.getD i d:=by
 rw[Qi,Qi,QT h]
theorem iA {α:Type} {l:List α} {v d:α}:(l++[v]).getD l.length d=v:=by
 rw[Qi,QQ (Qn _)];simp
theorem Mh {lt} {lv fl:List Int} (U:t.kids=[]) (E:t.k=2->t.l.toNat≠i):cR (lt.set i ty) 1 t=cR lt 1 t/\fT (lv.set i v) fl 1 t=fT lv fl 1 t:=by
 rw[cR,cR,fT,fT,U,Qo rfl,Qo rfl];refine⟨?_,?_⟩
 ·unfold dY;by_cases D:t.k=1
  ·rw[Qo D,Qo D]
  rw[Qj D,Qj D];by_cases z:t.k=2
  ·rw[Qo z,Qo z,getD_set_ne (Rt (E z))]
  rw[Qj z,Qj z]
 show iq _ _ _=iq _ _ _;unfold iq;by_cases D:t.k=1
 ·rw[Qo D,Qo D]
 rw[Qj D,Qj D];by_cases z:t.k=2
 ·rw[Qo z,Qo z,getD_set_ne (Rt (E z))]
 rw[Qj z,Qj z]
theorem Mi {lt:List Nat} {t:Tr} (z:t.kids=[]) (D:t.k=2):cR lt 1 t=lt.getD t.l.toNat 0:=by
 rw[cR,Qo z];unfold dY;rw[Qj (by omega),Qo D]
theorem uk {lt} (h:r9 p lets m lt lt' lv lv' fl) (hm:m<10) (hc:c.kids=[]->p.inl=true->gU 1 c/\cR lt' 1 c=ty/\fT lv' fl 1 c=v) (O:pj ty v):
 (p.inl=true/\c.kids=[]->r9 p (lets++[c]) (m+1) (lt.set m ty) lt' (lv.set m v) lv' fl)/\(¬(p.inl=true/\c.kids=[])->r9 p (lets++[c]) (m+1) (lt.set m ty) (lt'.set m ty) (lv.set m v) (lv'.set m v) fl):=by
 have R:=h.len;have Z:=h.llt;have e2:=h.llt';have e3:=h.llv;have e4:=h.llv';have G:∀i,i≠m->(lt.set m ty).getD i 0≠0->i<m/\lt.getD i 0≠0/\(lets++[c]).getD i fQ=lets.getD i fQ:=λi D E=>by
  rw[getD_set_ne (Rt D)] at E;have I:i<m:=by
   by_cases e:i<m
   ·exact e
   exact absurd (h.late i (by omega)) E
  exact⟨I,E,kh (by omega)⟩
 have new:(lets++[c]).getD m fQ=c:=by rw[<-R];exact iA
 refine⟨λD=>?_,λD=>?_⟩
 ·obtain⟨c1,c2,c3⟩:=hc D.2 D.1;refine⟨⟨λi E J z=>?_,λi E z=>?_⟩,vW h.has (by omega) (by omega) O,h.has',by simp[R],λi I=>?_,by simp[Z],e2,by simp[e3],e4,λi D=>by have:=h.fit' i D;omega⟩
  ·by_cases e:i=m
   ·subst e;rw[new,cQ (by omega),cQ (by omega)];exact⟨c1,c2,c3⟩
   obtain⟨a,b,q⟩:=G i e E;rw[q] at z⊢;rw[getD_set_ne (Rt e),getD_set_ne (Rt e)];exact h.ok.one i b J z
  ·by_cases e:i=m
   ·subst e;rw[new] at z;exact absurd D z
   obtain⟨a,b,q⟩:=G i e E;rw[q] at z;rw[getD_set_ne (Rt e),getD_set_ne (Rt e)];exact h.ok.same i b z
  rw[getD_set_ne (by omega)];exact h.late i (by omega)
 refine⟨⟨λi E J z=>?_,λi E z=>?_⟩,vW h.has (by omega) (by omega) O,vW h.has' (by omega) (by omega) O,by simp[R],λi I=>?_,by simp[Z],by simp[e2],by simp[e3],by simp[e4],λi D=>?_⟩
 ·by_cases e:i=m
  ·subst e;rw[new] at z;exact absurd ⟨J,z⟩ D
  obtain⟨a,b,q⟩:=G i e E;rw[q] at z⊢;rw[getD_set_ne (Rt e),getD_set_ne (Rt e)];obtain⟨o1,U,o3⟩:=h.ok.one i b J z;have aa:(lets.getD i fQ).k=2->(lets.getD i fQ).l.toNat≠m:=λh2 e=>by
   rw[Mi z h2,e] at U;have:=h.fit' m (by rw[U];exact b)
   omega
  obtain⟨s1,s2⟩:=Mh z aa;rw[s1,s2];exact⟨o1,U,o3⟩
 ·by_cases e:i=m
  ·subst e;rw[cQ (by omega),cQ (by omega),cQ (by omega),cQ (by omega)];exact⟨rfl,rfl⟩
  obtain⟨a,b,q⟩:=G i e E;rw[q] at z;rw[getD_set_ne (Rt e),getD_set_ne (Rt e),getD_set_ne (Rt e),getD_set_ne (Rt e)];exact h.ok.same i b z
 ·rw[getD_set_ne (by omega)];exact h.late i (by omega)
 by_cases e:i=m
 ·omega
 rw[getD_set_ne (Rt e)] at D;have:=h.fit' i D;omega
theorem vX {p:mW} {d fl} (R:dL fl):∀{l lets m lt lt' lv lv'},r9 p lets m lt lt' lv lv' fl->qc d lt l->ot m l->
 qc d lt' (tu p d lets l)/\gq d fl lv' (tu p d lets l)=gq d fl lv l/\ig d (tu p d lets l)<=ig d l/\(tu p d lets l).length<=l.length
 |[],lets,m,lt,lt',lv,lv',_,_,_=>⟨trivial,rfl,Qn _,Qn _⟩
 |x::r,lets,m,lt,lt',lv,lv',h,I,D=>by
  obtain⟨hw,J,hk⟩:=I;have G:=vV h.ok h.has' R hw J;have hv:=tm h.has R hw J;have E:∀y (q:List fM),ig d (y::q)=eP d y.c+ig d q:=λy q=>by simp[ig]
  rcases hk with⟨z,U,I⟩|⟨aa,ab,U,I⟩
  ·have D:x.wh=m/\ot (m+1) r:=by
    rcases D with D|D
    ·exact D.2
    exact absurd z D.1
   obtain⟨O,D⟩:=D;rw[O] at U I;have ac:=h.llt;obtain⟨n1,n2⟩:=uk h (by omega) (c:=kF p lets d x.c) (ty:=cR lt d x.c) (v:=fT lv fl d x.c) (λhs _=>by
    have V:gU 1 (kF p lets d x.c):=by
     cases d with
     |zero=>exact hw.elim
     |succ d=>exact⟨G.wf.1,by rw[hs];simp⟩
    have hd:1<=d:=by
     cases d with
     |zero=>exact hw.elim
     |succ d=>omega
    refine⟨V,?_,?_⟩
    ·rw[<-mO V hd,G.ty]
    rw[<-pn V hd,G.ev]) hv
   rw[tu,Qo z];by_cases Y:p.inl=true/\x.kind=11/\(kF p lets d x.c).kids=[]
   ·rw[Qo Y];obtain⟨Z,i2,i3,i4⟩:=vX R (n1 ⟨Y.1,Y.2.2⟩) I D;refine⟨Z,?_,?_,?_⟩
    ·rw[i2];conv=>rhs;rw[gq,Qo z,O]
    ·rw[E];omega
    simp;omega
   rw[Qj Y];obtain⟨Z,i2,i3,i4⟩:=vX R (n2 λe=>Y ⟨e.1,z,e.2⟩) I D
   refine⟨⟨G.wf,by rw[G.ty];exact J,.inl ⟨z,?_,?_⟩⟩,?_,?_,?_⟩
   ·simp only[O];rw[h.llt'];omega
   ·simp only[O,G.ty];exact Z
   ·rw[gq,Qo z];simp only[O,G.ev];rw[i2];conv=>rhs;rw[gq,Qo z,O]
   ·rw[E,E];have:=G.cnt;simp only[];omega
   simp;omega
  have z:x.kind≠11:=by omega
  have D:ot m r:=by
   rcases D with D|D
   ·exact absurd D.1 z
   exact D.2
  rw[tu,Qj z,Qj (λe=>z e.2.1)]
  obtain⟨Z,i2,i3,i4⟩:=vX R h I D;refine⟨⟨G.wf,by rw[G.ty];exact J,.inr ⟨aa,by rw[G.ty];exact ab,U,Z⟩⟩,?_,?_,?_⟩
  ·rw[gq,Qj z];simp only[G.ev];rw[i2];conv=>rhs;rw[gq,Qj z]
  ·rw[E,E];have:=G.cnt;simp only[];omega
  simp;omega
theorem sd {d} {fl:List Int}:∀{l lt lv},qc d lt l->qc d lt (jy l)/\gq d fl lv (jy l)=gq d fl lv l/\ig d (jy l)<=ig d l/\(jy l).length<=l.length
 |[],lt,lv,_=>⟨trivial,rfl,Qn _,Qn _⟩
 |x::r,lt,lv,G=>by
  obtain⟨I,J,hk⟩:=G;have z:∀y q,ig d (y::q)=eP d y.c+ig d q:=λy q=>by simp[ig]
  rcases hk with⟨D,E,G⟩|⟨V,Y,E,G⟩
  ·rw[jy,Qj (λe=>e.1 D),Qj (λe=>e.1 D)]
   obtain⟨U,_,i3,i4⟩:=sd (fl:=fl) (lv:=lv) G;refine⟨⟨I,J,.inl ⟨D,E,U⟩⟩,?_,by rw[z,z];omega,by simp;omega⟩
   rw[gq,gq,Qo D,Qo D];exact(sd G).2.1
  have D:x.kind≠11:=by omega
  obtain⟨U,Z,i3,i4⟩:=sd G;rw[jy];by_cases O:x.c.k=21
  ·rw[Qo ⟨D,O⟩];refine⟨U,?_,by rw[z];omega,by simp;omega⟩
   rw[Z];conv=>rhs;rw[gq,Qj D,nK I O,Qj (by decide)]
  rw[Qj (λe=>O e.2)]
  by_cases R:x.c.k=20
  ·rw[Qo ⟨D,R⟩];refine⟨⟨I,J,.inr ⟨V,Y,E,trivial⟩⟩,?_,by rw[z,z];simp[ig],by simp⟩
   have e:∀q,gq d fl lv (x::q)=(decide (x.kind=12),x.wh):=λq=>by rw[gq,Qj D,qa I R,Qo rfl]
   rw[e,e]
  rw[Qj (λe=>R e.2)]
  refine⟨⟨I,J,.inr ⟨V,Y,E,U⟩⟩,?_,by rw[z,z];omega,by simp;omega⟩
  rw[gq,gq,Qj D,Qj D,Z]
def my:Nat->Tr->List Int
 |0,_=>[]
 |d+1,t=>(if t.k=2 then[t.l] else[])++t.kids.flatMap (my d)
theorem qd {d:Nat}:∀{t} {nm:List Bool},(iY d t nm).length=nm.length/\ ∀i,nm.getD i false=true->(iY d t nm).getD i false=true:=by
 induction d with
 |zero=>intro t nm;exact⟨rfl,λ_ h=>h⟩
 |succ d ih=>
  intro t nm;rw[iY];have D:∀(l:List Tr) (nm:List Bool),(l.foldl (λa c=>iY d c a) nm).length=nm.length/\ ∀i,nm.getD i false=true->(l.foldl (λa c=>iY d c a) nm).getD i false=true:=by
   intro l;induction l with
   |nil=>intro nm;exact⟨rfl,λ_ h=>h⟩
   |cons c l E=>
    intro nm;rw[R9];obtain⟨a1,a2⟩:=E (iY d c nm);obtain⟨G,I⟩:=ih;exact⟨a1.trans G,λi z=>a2 i (I i z)⟩
  obtain⟨a1,a2⟩:=D t.kids (if t.k=2 then nm.set t.l.toNat true else nm);refine⟨a1.trans (by split<;>simp),λi z=>a2 i ?_⟩
  split
  ·by_cases e:t.l.toNat=i
   ·subst e;by_cases J:t.l.toNat<nm.length
    ·rw[cQ J]
    rw[Qi,QC (by omega)] at z;simp at z
   rw[getD_set_ne e];exact z
  exact z
theorem J9 {d : Nat} :∀ {t } {nm : List Bool}, ∀ l ∈ my d t, l.toNat < nm.length -> (iY d t nm).getD l.toNat false = true := by
  induction d with
  | zero => intro t nm l hl; simp [my] at hl
  | succ d ih =>
    intro t nm l hl hlt;rw [iY];have hfold :∀ (q : List Tr) (nm : List Bool), l.toNat < nm.length -> (nm.getD l.toNat false = true \/ ∃ c ∈ q, l ∈ my d c) -> (q.foldl (λa c => iY d c a) nm).getD l.toNat false = true := by
      intro q
      induction q with
      | nil => intro nm _ h; rcases h with h | ⟨c, hc, _⟩
               · exact h
               · simp at hc
      | cons c q ihq =>
        intro nm hlt h;rw [R9];refine ihq _ (by rw [qd.1]; exact hlt) ?_
        rcases h with h | ⟨x, hx, hm⟩
        · exact .inl (qd.2 _ h)
        · rcases Ra.1 hx with rfl | hx
          · exact .inl (ih l hm hlt)
          · exact .inr ⟨x, hx, hm⟩
    refine hfold _ _ (by split <;> simpa using hlt) ?_
    rw [my, Rn] at hl;rcases hl with hl | hl
    · split at hl
      · rename_i h2
        simp at hl; subst hl
        rw [Qo h2, cQ hlt]; exact .inl rfl
      · simp at hl
    · rw [S4] at hl
      exact .inr hl
theorem Bq {lt}:∀{t:Tr},gU d t->(∀l∈my d t,lt'.getD l.toNat 0=lt.getD l.toNat 0/\lv'.getD l.toNat 0=lv.getD l.toNat 0)->cR lt' d t=cR lt d t/\fT lv' fl d t=fT lv fl d t:=by
 induction d with
 |zero=>intro t h;exact h.elim
 |succ d ih=>
  intro t h G;have I:∀c∈t.kids,cR lt' d c=cR lt d c/\fT lv' fl d c=fT lv fl d c:=λc E=>ih (h.2 c E) λl O=>G l (by
   rw[my,Rn,S4];exact .inr ⟨c,E,O⟩)
  have J:t.k=2->lt'.getD t.l.toNat 0=lt.getD t.l.toNat 0/\lv'.getD t.l.toNat 0=lv.getD t.l.toNat 0:=λe=>G t.l (by rw[my,Qo e];simp)
  rw[cR,cR,fT,fT,QY λc E=>(I c E).1,QY λc E=>(I c E).2]
  have R:dY lt' t=dY lt t:=by
   unfold dY;by_cases D:t.k=1
   ·rw[Qo D,Qo D]
   rw[Qj D,Qj D];by_cases z:t.k=2
   ·rw[Qo z,Qo z,(J z).1]
   rw[Qj z,Qj z]
  have U:iq lv' fl t=iq lv fl t:=by
   unfold iq;by_cases D:t.k=1
   ·rw[Qo D,Qo D]
   rw[Qj D,Qj D];by_cases z:t.k=2
   ·rw[Qo z,Qo z,(J z).2]
   rw[Qj z,Qj z]
  rw[R,U];exact⟨rfl,rfl⟩
theorem Ka {lt} {d:Nat}:∀{t:Tr},gU d t->cR lt d t≠0-> ∀l∈my d t,l.toNat<lt.length:=by
 induction d with
 |zero=>intro t h;exact h.elim
 |succ d ih=>
  intro t h D l z;rw[my,Rn,S4] at z;rcases z with z|⟨c,E,z⟩
  ·split at z
   ·rename_i G;simp at z;subst z;have I:=oj h (by unfold dJ;omega)
    rw[cR,Qo I] at D;unfold dY at D;rw[Qj (by omega),Qo G] at D
    by_cases e:t.l.toNat<lt.length
    ·exact e
    exfalso;apply D;rw[Qi,QC (by omega)];rfl
   simp at z
  exact ih (h.2 c E) (oq h D c E) l z
theorem vY {d:Nat}:∀{l:List fM},(iJ d l).2.length=10
 |[]=>rfl
 |x::r=>by
  rw[iJ];split
  ·exact vY
  exact qd.1.trans vY
theorem uU {d} {fl:List Int}:∀{l lt lt' lv lv'},qc d lt l->lt.length=10->lt'.length=10->lv.length=10->lv'.length=10->(∀i,(iJ d l).2.getD i false=true->lt'.getD i 0=lt.getD i 0/\lv'.getD i 0=lv.getD i 0)->
 qc d lt' (iJ d l).1/\gq d fl lv' (iJ d l).1=gq d fl lv l/\ig d (iJ d l).1<=ig d l/\(iJ d l).1.length<=l.length
 |[],lt,lt',lv,lv',_,_,_,_,_,_=>⟨trivial,rfl,Qn _,Qn _⟩
 |x::r,lt,lt',lv,lv',I,e1,e2,e3,e4,G=>by
  obtain⟨Z,O,hk⟩:=I;have z:∀y q,ig d (y::q)=eP d y.c+ig d q:=λy q=>by simp[ig]
  rw[iJ] at G⊢;by_cases hd:x.kind=11/\(iJ d r).2.getD x.wh false=false
  ·rw[Qo hd] at G⊢;rcases hk with⟨D,R,I⟩|⟨aa,_⟩
   ·obtain⟨U,V,i3,i4⟩:=uU (fl:=fl) (lt':=lt') (lv:=lv.set x.wh (fT lv fl d x.c)) (lv':=lv') I (by simp[e1]) e2 (by simp[e3]) e4 (λi J=>by
     have E:x.wh≠i:=λe=>by rw[<-e,hd.2] at J;simp at J
     rw[getD_set_ne E,getD_set_ne E];exact G i J)
    refine⟨U,?_,by rw[z];omega,by simp;omega⟩
    rw[V];conv=>rhs;rw[gq,Qo D]
   omega
  rw[Qj hd] at G⊢;simp only[] at G⊢;have ab:∀l∈my d x.c,lt'.getD l.toNat 0=lt.getD l.toNat 0/\lv'.getD l.toNat 0=lv.getD l.toNat 0:=λl hl=>G _ (J9 l hl (by rw[vY];have:=Ka Z O l hl;omega))
  obtain⟨n1,n2⟩:=Bq Z ab;have Y:∀i,(iJ d r).2.getD i false=true->lt'.getD i 0=lt.getD i 0/\lv'.getD i 0=lv.getD i 0:=λi J=>G i (qd.2 i J)
  rcases hk with⟨D,R,I⟩|⟨aa,ac,R,I⟩
  ·obtain⟨U,V,i3,i4⟩:=uU (fl:=fl) (lt':=lt'.set x.wh (cR lt d x.c)) (lv:=lv.set x.wh (fT lv fl d x.c)) (lv':=lv'.set x.wh (fT lv fl d x.c)) I (by simp[e1]) (by simp[e2]) (by simp[e3]) (by simp[e4]) (λi J=>by
    by_cases E:x.wh=i
    ·subst E;rw[cQ (by omega),cQ (by omega),cQ (by omega),cQ (by omega)];exact⟨rfl,rfl⟩
    rw[getD_set_ne E,getD_set_ne E,getD_set_ne E,getD_set_ne E];exact Y i J)
   refine⟨⟨Z,by rw[n1];exact O,.inl ⟨D,by omega,by rw[n1];exact U⟩⟩,?_,by rw[z,z];omega,by simp;omega⟩
   rw[gq,Qo D,n2,V];conv=>rhs;rw[gq,Qo D]
  have D:x.kind≠11:=by omega
  obtain⟨U,V,i3,i4⟩:=uU I e1 e2 e3 e4 Y;refine⟨⟨Z,by rw[n1];exact O,.inr ⟨aa,by rw[n1];exact ac,R,U⟩⟩,?_,by rw[z,z];omega,by simp;omega⟩
  rw[gq,Qj D,n2,V];conv=>rhs;rw[gq,Qj D]
def eN:List Nat:=[0,0,0,0,0,0,0,0,0,0]
def lI:List Int:=[0,0,0,0,0,0,0,0,0,0]
theorem iZ (i:Nat):eN.getD i 0=0:=by
 by_cases h:i<10
 ·have:i=0\/i=1\/i=2\/i=3\/i=4\/i=5\/i=6\/i=7\/i=8\/i=9:=by omega
  rcases this with rfl|rfl|rfl|rfl|rfl|rfl|rfl|rfl|rfl|rfl<;>rfl
 rw[Qi,QC (by simp[eN];omega)];rfl
theorem Mj (U:dL fl) (V:qc d eN l) (Y:ot 0 l):qc d eN (po p d l)/\gq d fl lI (po p d l)=gq d fl lI l/\ig d (po p d l)<=ig d l/\(po p d l).length<=l.length:=by
 have z:∀i,eN.getD i 0≠0->False:=λi h=>h (iZ i)
 obtain⟨I,J,Z,i4⟩:=vX (p:=p) (d:=d) U (lets:=[]) (m:=0) (lt:=eN) (lt':=eN) (lv:=lI) (lv':=lI) ⟨⟨λi h=>(z i h).elim,λi h=>(z i h).elim⟩,λi h=>(z i h).elim,λi h=>(z i h).elim,rfl,λi _=>iZ i,rfl,rfl,rfl,rfl,λi h=>(z i h).elim⟩ V Y
 unfold po;split
 ·obtain⟨j1,j2,j3,j4⟩:=sd (fl:=fl) (lv:=lI) I;obtain⟨k1,k2,k3,k4⟩:=uU (fl:=fl) (lt':=eN) (lv:=lI) (lv':=lI) j1 rfl rfl rfl rfl (λi _=>⟨rfl,rfl⟩)
  exact⟨k1,k2.trans (j2.trans J),by omega,by omega⟩
 exact⟨I,J,Z,i4⟩
structure mX where
 op:Nat
 n:Int
 to:Nat
 kn:Kn
def fF (t:Tr):Nat:=if 27<=t.k then 4 else if 22<=t.k then 3 else if t.k=1 then 1 else if t.k=2 then 6 else 2
def jc (t:Tr):Int:=if 27<=t.k then((t.k - 27:Nat):Int) else if 22<=t.k then((t.k - 22:Nat):Int) else if t.k=1 then t.n else if t.k=2 then t.l else cT (decide (t.k=20))
def mY (k:Nat):Nat:=if k=6 then 7 else if k=7 then 8 else if k=8 then 9 else if k=10 then 10 else if k=9 then 11 else if k=18 then 13 else 14
def qe (jmp:Bool) (k:Nat):Bool:=jmp&&(decide (k=20)||decide (k=21)||decide (k=19)||decide (k=18)||decide (k=17)||decide (k=14))
def cZ (jmp:Bool):Nat->Option Bool->Tr->Nat
 |0,_,_=>0
 |d+1,m,t=>
  let lay:=if t.k=14 then cZ jmp d (some false) (t.kid 0)+cZ jmp d none (t.kid 1)+1+cZ jmp d none (t.kid 2)
   else if t.k=19 then cZ jmp d none (t.kid 0)+1
   else if t.kids.length=2 then cZ jmp d none (t.kid 0)+cZ jmp d none (t.kid 1)+1 else 1
  match m with
  |none=>lay
  |some this=>
   if qe jmp t.k then
    if t.k=20\/t.k=21 then(if this=decide (t.k=20) then 1 else 0)
    else if t.k=19 then cZ jmp d (some (!this)) (t.kid 0)
    else if t.k=14 then cZ jmp d (some false) (t.kid 0)+cZ jmp d (some this) (t.kid 1)+1+cZ jmp d (some this) (t.kid 2)
    else cZ jmp d (some (decide (t.k=17))) (t.kid 0)+cZ jmp d (some this) (t.kid 1)
   else lay+(if this then 2 else 1)
def fZ (jmp:Bool):Nat->Option Bool->Tr->Nat->Nat
 |0,_,_,_=>0
 |d+1,m,t,b=>
  let lay:=if t.k=14 then max (fZ jmp d (some false) (t.kid 0) b) (max (fZ jmp d none (t.kid 1) b) (fZ jmp d none (t.kid 2) b))
   else if t.k=19 then fZ jmp d none (t.kid 0) b
   else if t.kids.length=2 then max (fZ jmp d none (t.kid 0) b) (fZ jmp d none (t.kid 1) (b+1)) else b+1
  match m with
  |none=>lay
  |some this=>
   if qe jmp t.k then
    if t.k=20\/t.k=21 then 0
    else if t.k=19 then fZ jmp d (some (!this)) (t.kid 0) b
    else if t.k=14 then max (fZ jmp d (some false) (t.kid 0) b) (max (fZ jmp d (some this) (t.kid 1) b) (fZ jmp d (some this) (t.kid 2) b))
    else max (fZ jmp d (some (decide (t.k=17))) (t.kid 0) b) (fZ jmp d (some this) (t.kid 1) b)
   else lay
theorem rj (jmp) (d:Nat):∀m t b,fZ jmp d m t b<=b+d:=by
 induction d with
 |zero=>intro m t b;rw[fZ];omega
 |succ d ih=>
  intro m t b;have z:=λm j=>ih m (t.kid j) b
  have G:=λm j=>ih m (t.kid j) (b+1)
  have D:fZ jmp (d+1) none t b<=b+(d+1):=by
   simp only[fZ];(repeat' split)
   ·have a1:=z (some false) 0;have a2:=z none 1;have a3:=z none 2;omega
   ·have:=z none 0;omega
   ·have:=z none 0;have:=G none 1;omega
   omega
  cases m with
  |none=>exact D
  |some this=>
   cases E:qe jmp t.k with
   |false=>
    have e:fZ jmp (d+1) (some this) t b=fZ jmp (d+1) none t b:=by simp only[fZ,E];rfl
    rw[e];exact D
   |true=>
    simp only[fZ,E,RO];(repeat' split)
    ·omega
    ·have:=z (some (!this)) 0;omega
    ·have a1:=z (some false) 0;have a2:=z (some this) 1;have a3:=z (some this) 2;omega
    have a1:=z (some (decide (t.k=17))) 0;have a2:=z (some this) 1;omega
def gL (jmp:Bool):Nat->Option Bool->Tr->Kn->Nat->Nat->List mX
 |0,_,_,_,_,_=>[]
 |d+1,m,t,k,p,T=>
  let lay:=
   if t.k=14 then
    let a:=cZ jmp d (some false) (t.kid 0)
    let b:=cZ jmp d none (t.kid 1)
    let c:=cZ jmp d none (t.kid 2)
    gL jmp d (some false) (t.kid 0) k p (p+a+b+1)++(gL jmp d none (t.kid 1) k (p+a) 0++(⟨16,0,p+a+b+1+c,⟨cR k.cl d (t.kid 1)::k.st,k.cl⟩⟩::gL jmp d none (t.kid 2) k (p+a+b+1) 0))
   else if t.k=19 then gL jmp d none (t.kid 0) k p 0++[⟨12,0,0,⟨2::k.st,k.cl⟩⟩]
   else if t.kids.length=2 then
    gL jmp d none (t.kid 0) k p 0++(gL jmp d none (t.kid 1) ⟨cR k.cl d (t.kid 0)::k.st,k.cl⟩ (p+cZ jmp d none (t.kid 0)) 0++[⟨mY t.k,0,0,⟨cR k.cl d (t.kid 1)::cR k.cl d (t.kid 0)::k.st,k.cl⟩⟩])
   else[⟨fF t,jc t,0,k⟩]
  match m with
  |none=>lay
  |some this=>
   if qe jmp t.k then
    if t.k=20\/t.k=21 then(if this=decide (t.k=20) then[⟨16,0,T,k⟩] else[])
    else if t.k=19 then gL jmp d (some (!this)) (t.kid 0) k p T
    else if t.k=14 then
     let a:=cZ jmp d (some false) (t.kid 0)
     let b:=cZ jmp d (some this) (t.kid 1)
     let c:=cZ jmp d (some this) (t.kid 2)
     gL jmp d (some false) (t.kid 0) k p (p+a+b+1)++(gL jmp d (some this) (t.kid 1) k (p+a) T++(⟨16,0,p+a+b+1+c,k⟩::gL jmp d (some this) (t.kid 2) k (p+a+b+1) T))
    else
     let a:=cZ jmp d (some (decide (t.k=17))) (t.kid 0)
     let b:=cZ jmp d (some this) (t.kid 1)
     gL jmp d (some (decide (t.k=17))) (t.kid 0) k p (if this=decide (t.k=17) then T else p+a+b)++gL jmp d (some this) (t.kid 1) k (p+a) T
   else lay++((if this then[⟨12,0,0,⟨2::k.st,k.cl⟩⟩] else[])++[⟨15,0,T,⟨2::k.st,k.cl⟩⟩])
theorem fX (jmp) (d):∀m t k p T,(gL jmp d m t k p T).length=cZ jmp d m t:=by
 induction d with
 |zero=>intros;rfl
 |succ d ih=>
  intro m t k p T;cases m with
  |none=>
   simp only[gL,cZ];(repeat' split)<;>simp[ih]<;>omega
  |some this=>
   simp only[gL,cZ];cases this<;>(repeat' split)<;>simp[ih] at* <;>omega
def Sub (F:List mX) (p:Nat) (s:List mX):Prop:= ∃pre post,F=pre++(s++post)/\pre.length=p
theorem Sub.left {F p a b} (h:Sub F p (a++b)):Sub F p a:=by
 obtain⟨pre,post,e,z⟩:=h;exact⟨pre,b++post,by rw[e,QW],z⟩
theorem Sub.right (h:Sub F p (a++b)) (z:a.length=q):Sub F (p+q) b:=by
 obtain⟨pre,post,e,D⟩:=h;exact⟨pre++a,post,by rw[e,QW,QW],by rw[Qt,D,z]⟩
theorem Sub.head (h:Sub F p (x::s)):F[p]?=some x:=by
 obtain⟨pre,post,e,z⟩:=h;rw[e,QQ (by omega),z]
 simp
theorem Sub.tail (h:Sub F p (x::s)):Sub F (p+1) s:=by
 have:Sub F p ([x]++s):=h;exact this.right rfl
def NS (F:List mX) (fl:List Int) (i:Nat) (st cl:List Int) (r:Bool×Nat):Prop:=
 ∀P:Nat->List Int->List Int->Bool×Nat->Prop,
  (∀(i:Nat) (x:mX) (st cl:List Int),F[i]?=some x->(x.op=17\/x.op=18)->P i st cl (decide (x.op=17),x.n.toNat))->
  (∀(i:Nat) (x:mX) (st cl st' cl':List Int) (j:Bool) (r:Bool×Nat),F[i]?=some x-> ¬(x.op=17\/x.op=18)->iP fl ⟨x.op,x.n,0⟩ st cl=some (st',cl',j)->P (if j then x.to else i+1) st' cl' r->P i st cl r)->P i st cl r
theorem NS.cast (h:NS F fl p st cl r) (e:p=q):NS F fl q st cl r:=e▸h
structure NT (cells op:Nat) (n:Int):Prop where
 ops:1<=op/\op<=18
 big:op=1->dn n
 two:cG op=2->0<=n/\n<=dE op cells/\n<=255
 one:cG op=1->n=0
def jd (F:List mX) (p:Nat) (k:Kn):Prop:= ∃y,F[p]?=some y/\y.kn=k
structure Kb (F:List mX) (dep cells i:Nat) (x:mX):Prop where
 num:NT cells x.op x.n
 len:x.kn.cl.length=cells
 doe:∃k',eo x.op x.n.toNat x.kn=some k'/\k'.st.length<=dep/\(x.op≠16->x.op≠17->x.op≠18->jd F (i+1) k')/\(x.op=15\/x.op=16->i<x.to/\jd F x.to k')
theorem jQ {F:List mX} {jmp:Bool} (d):∀{t k m p T},gU d t->Sub F p (gL jmp d m t k p T)->(m≠none->jd F (p+cZ jmp d m t) k)->jd F p k:=by
 induction d with
 |zero=>intro t k m p T h;exact h.elim
 |succ d ih=>
  intro t k m p T h z G;have R:=h.2;have aa:Sub F p (gL jmp (d+1) none t k p 0)->jd F p k:=by
   intro z;rcases h.1 with⟨E,D,_⟩|⟨E,a,D⟩|⟨E,a,b,c,D⟩|⟨E,a,b,D⟩
   ·have I: ¬t.k=14:=by unfold dJ at E;omega
    have J: ¬t.k=19:=by unfold dJ at E;omega
    simp only[gL,Qj I,Qj J,D,Q7] at z;rw[Qj (by decide)] at z
    exact⟨_,z.head,rfl⟩
   ·have I: ¬t.k=14:=by omega
    simp only[gL,Qj I,Qo E] at z;have O:t.kid 0=a:=by unfold Tr.kid;rw[D];rfl
    rw[O] at z;exact ih (R a (by rw[D];simp)) z.left (by simp)
   ·simp only[gL,Qo E] at z;have O:t.kid 0=a:=by unfold Tr.kid;rw[D];rfl
    have Y:t.kid 1=b:=by unfold Tr.kid;rw[D];rfl
    rw[O,Y] at z;have V:=z.right (fX _ _ _ _ _ _ _);have Z:=ih (R b (by rw[D];simp)) V.left (by simp)
    exact ih (R a (by rw[D];simp)) z.left (λ_=>Z)
   have I: ¬t.k=14:=by unfold fW at E;omega
   have J: ¬t.k=19:=by unfold fW at E;omega
   have hl:t.kids.length=2:=by rw[D];rfl
   simp only[gL,Qj I,Qj J,Qo hl] at z;have O:t.kid 0=a:=by unfold Tr.kid;rw[D];rfl
   rw[O] at z;exact ih (R a (by rw[D];simp)) z.left (by simp)
  cases m with
  |none=>exact aa z
  |some this=>
   have G:=G (by simp)
   cases hj:qe jmp t.k with
   |false=>
    have ab:gL jmp (d+1) (some this) t k p T=gL jmp (d+1) none t k p 0++((if this then[⟨12,0,0,⟨2::k.st,k.cl⟩⟩] else[])++[⟨15,0,T,⟨2::k.st,k.cl⟩⟩]):=by
     simp only[gL,hj];rfl
    rw[ab] at z;exact aa z.left
   |true=>
    simp only[gL,cZ,hj,RO] at z G;rcases h.1 with⟨E,D,_⟩|⟨E,a,D⟩|⟨E,a,b,c,D⟩|⟨E,a,b,D⟩
    ·have U:t.k=20\/t.k=21:=by
      unfold qe at hj;unfold dJ at E;simp at hj;omega
     rw[Qo U] at z G;by_cases g:this=decide (t.k=20)
     ·rw[Qo g] at z;exact⟨_,z.head,rfl⟩
     rw[Qj g] at G;exact G
    ·have U: ¬(t.k=20\/t.k=21):=by omega
     rw[Qj U,Qo E] at z G;have O:t.kid 0=a:=by unfold Tr.kid;rw[D];rfl
     rw[O] at z G;exact ih (R a (by rw[D];simp)) z (λ_=>G)
    ·have U: ¬(t.k=20\/t.k=21):=by omega
     have J: ¬t.k=19:=by omega
     rw[Qj U,Qj J,Qo E] at z G;have O:t.kid 0=a:=by unfold Tr.kid;rw[D];rfl
     have Y:t.kid 1=b:=by unfold Tr.kid;rw[D];rfl
     rw[O,Y] at z G;have V:=z.right (fX _ _ _ _ _ _ _);have ac:=V.right (fX _ _ _ _ _ _ _);have Z:=ih (R b (by rw[D];simp)) V.left (λ_=>⟨_,ac.head,rfl⟩)
     exact ih (R a (by rw[D];simp)) z.left (λ_=>Z)
    have U: ¬(t.k=20\/t.k=21):=by unfold fW at E;omega
    have J: ¬t.k=19:=by unfold fW at E;omega
    have I: ¬t.k=14:=by unfold fW at E;omega
    rw[Qj U,Qj J,Qj I] at z G;have O:t.kid 0=a:=by unfold Tr.kid;rw[D];rfl
    have Y:t.kid 1=b:=by unfold Tr.kid;rw[D];rfl
    rw[O,Y] at z G;have ad:=z.right (fX _ _ _ _ _ _ _);have Z:=ih (R b (by rw[D];simp)) ad (λ_=>by rw[R0];exact G)
    exact ih (R a (by rw[D];simp)) z.left (λ_=>Z)
theorem GL (J:dJ t.k) (O:t.k=2->0<=t.l) (D:dY cl t≠0):eo (fF t) (jc t).toNat ⟨st,cl⟩=some ⟨dY cl t::st,cl⟩:=by
 unfold dJ at J;unfold fF jc dY at*;by_cases z:27<=t.k
 ·simp[eo,z,show ¬t.k=1 by omega,show ¬t.k=2 by omega]
 by_cases E:22<=t.k
 ·simp[eo,z,E,show ¬t.k=1 by omega,show ¬t.k=2 by omega]
 by_cases G:t.k=1
 ·simp[eo,G]
 by_cases I:t.k=2
 ·simp[I,-List.getD_eq_getElem?_getD] at D⊢;simp[eo,D,-List.getD_eq_getElem?_getD]
 simp[eo,z,E,G,I]
theorem Kc {t:Tr} (U:dJ t.k) (V:t.k=1->dn t.n) (O:t.k=2->0<=t.l) (R:dY cl t≠0) (Y:cl.length<=255):NT cl.length (fF t) (jc t):=by
 unfold dJ at U;by_cases z:27<=t.k
 ·have D:fF t=4:=by simp[fF,z]
  have E:jc t=((t.k - 27:Nat):Int):=by simp[jc,z]
  rw[D,E];exact⟨by omega,by omega,λ_=>by unfold dE;simp;omega,λg=>by simp[cG] at g⟩
 by_cases G:22<=t.k
 ·have D:fF t=3:=by simp[fF,z,G]
  have E:jc t=((t.k - 22:Nat):Int):=by simp[jc,z,G]
  rw[D,E];exact⟨by omega,by omega,λ_=>by unfold dE;simp;omega,λg=>by simp[cG] at g⟩
 by_cases I:t.k=1
 ·have D:fF t=1:=by simp[fF,I]
  have E:jc t=t.n:=by simp[jc,I]
  rw[D,E];exact⟨by omega,λ_=>V I,λg=>by simp[cG] at g,λg=>by simp[cG] at g⟩
 by_cases J:t.k=2
 ·have D:fF t=6:=by simp[fF,J]
  have E:jc t=t.l:=by simp[jc,J]
  have O:=O J;have:t.l.toNat<cl.length:=by
   refine Nat.lt_of_not_le λg=>R ?_
   unfold dY;rw[Qj I,Qo J,Qi,QC g];rfl
  rw[D,E];exact⟨by omega,by omega,λ_=>by unfold dE;simp;omega,λg=>by simp[cG] at g⟩
 have D:fF t=2:=by simp[fF,z,G,I,J]
 have E:jc t=cT (decide (t.k=20)):=by simp[jc,z,G,I,J]
 rw[D,E];exact⟨by omega,by omega,λ_=>by unfold dE;cases decide (t.k=20)<;>simp[cT],λg=>by simp[cG] at g⟩
theorem GM {k D E:Nat} (G:fW k) (z:eD k [D,E]≠0):eo (mY k) 0 ⟨E::D::st,cl⟩=some ⟨eD k [D,E]::st,cl⟩:=by
 unfold fW at G;rcases G with rfl|rfl|rfl|rfl|rfl|rfl|rfl<;>simp[eD] at z⊢ <;>(try simp[eo,mY,kD,z])<;>omega
theorem pq {cells z:Nat} (h:7<=z/\z<=16):NT cells z 0:=by
 refine⟨by omega,by omega,λg=>?_,λ_=>rfl⟩
 exfalso;unfold cG at g;rw[Qj (by omega),Qj (by omega)] at g
 (repeat' split at g)<;>omega
theorem Mk (k:Nat):7<=mY k/\mY k<=14:=by unfold mY;(repeat' split)<;>omega
def Pd (m:Option Bool) (ty:Nat) (k:Kn):Kn:=match m with
 |none=>⟨ty::k.st,k.cl⟩
 |some _=>k
def eT (F:List mX) (dep cells p q:Nat):Prop:= ∀i x,p<=i->i<q->F[i]?=some x->Kb F dep cells i x
theorem eT.join {dep cells p q r:Nat} (D:eT F dep cells p q) (E:eT F dep cells q r):eT F dep cells p r:=λi x G I z=>by
 by_cases g:i<q
 ·exact D i x G g z
 exact E i x (by omega) I z
theorem eT.one {dep cells} (D:F[p]?=some x) (h:Kb F dep cells p x):eT F dep cells p (p+1):=λi y E G z=>by
 obtain rfl:i=p:=by omega
 rw[D] at z;cases z;exact h
theorem eT.cast {dep cells p q z:Nat} (h:eT F dep cells p q) (e:q=z):eT F dep cells p z:=e▸h
theorem jd.cast {F:List mX} (h:jd F p k) (e:p=q):jd F q k:=e▸h
theorem Ff {jmp:Bool} (d):∀{t b},gU d t->b+1<=fZ jmp d none t b:=by
 induction d with
 |zero=>intro t b h;exact h.elim
 |succ d ih=>
  intro t b h;have I:=h.2;rcases h.1 with⟨D,z,_⟩|⟨D,a,z⟩|⟨D,a,J,c,z⟩|⟨D,a,J,z⟩
  ·have E: ¬t.k=14:=by unfold dJ at D;omega
   have G: ¬t.k=19:=by unfold dJ at D;omega
   simp only[fZ,Qj E,Qj G,z,Q7];rw[Qj (by decide)];exact Qn _
  ·have E: ¬t.k=14:=by omega
   have O:t.kid 0=a:=by unfold Tr.kid;rw[z];rfl
   simp only[fZ,Qj E,Qo D,O];exact ih (I a (by rw[z];simp))
  ·have R:t.kid 1=J:=by unfold Tr.kid;rw[z];rfl
   simp only[fZ,Qo D,R];have:=ih (b:=b) (I J (by rw[z];simp))
   omega
  have E: ¬t.k=14:=by unfold fW at D;omega
  have G: ¬t.k=19:=by unfold fW at D;omega
  have U:t.kids.length=2:=by rw[z];rfl
  have O:t.kid 0=a:=by unfold Tr.kid;rw[z];rfl
  simp only[fZ,Qj E,Qj G,Qo U,O];have:=ih (b:=b) (I a (by rw[z];simp))
  omega
theorem Br {F:List mX} {dep cells} (ax:cells<=255) (d):∀{t k m p T},gU d t->k.cl.length=cells->cR k.cl d t≠0->(m≠none->cR k.cl d t=2)->k.st.length<=dep->fZ jmp d m t k.st.length<=dep->Sub F p (gL jmp d m t k p T)->jd F (p+cZ jmp d m t) (Pd m (cR k.cl d t) k)->(m≠none->p+cZ jmp d m t<=T/\jd F T k)->eT F dep cells p (p+cZ jmp d m t):=by
 induction d with
 |zero=>intro t k m p T h;exact h.elim
 |succ d ih=>
  intro t k m p T h E D hm V R G I hT;have U:=oq h D;have hw:=h.2;have an:fZ jmp (d+1) none t k.st.length<=dep->Sub F p (gL jmp (d+1) none t k p 0)->jd F (p+cZ jmp (d+1) none t) ⟨cR k.cl (d+1) t::k.st,k.cl⟩->eT F dep cells p (p+cZ jmp (d+1) none t):=by
   intro R G I;have ao:=QV (Ff (d+1) h) R;rcases h.1 with⟨O,z,hn,hl⟩|⟨O,a,z⟩|⟨O,a,b,c,z⟩|⟨O,a,b,z⟩
   ·have af: ¬t.k=14:=by unfold dJ at O;omega
    have ag: ¬t.k=19:=by unfold dJ at O;omega
    have aj:cR k.cl (d+1) t=dY k.cl t:=by rw[cR,Qo z]
    rw[aj] at D I;simp only[gL,cZ,Qj af,Qj ag,z,Q7] at G I⊢;rw[Qj (by decide)] at G I⊢
    refine eT.one G.head ⟨E▸Kc O hn hl D (by omega),E,_,GL O hl D,by simp;omega,λ_ _ _=>I,λg=>?_⟩
    exfalso;have g:fF t=15\/fF t=16:=g;unfold fF at g;(repeat' split at g)<;>omega
   ·have af: ¬t.k=14:=by omega
    have e0:t.kid 0=a:=by unfold Tr.kid;rw[z];rfl
    simp only[gL,cZ,fZ,Qj af,Qo O,e0] at G I R⊢;have ha:=hw a (by rw[z];simp)
    have Y:=U a (by rw[z];simp)
    have ai:cR k.cl d a=2:=by
     rw[cR,z,Qj (by simp)] at D
     simp only[QL,Q9,eD] at D;split at D
     ·rename_i g;exact g
     exact absurd rfl D
    have aj:cR k.cl (d+1) t=2:=by
     rw[cR,z,Qj (by simp)];simp only[QL,Q9,eD];rw[Qo ai]
    rw[aj] at I;have J:=(G.right (fX _ _ _ _ _ _ _)).head;refine(ih ha E Y (by simp) V (by omega) G.left ⟨_,J,?_⟩ (by simp)).join ((eT.one J ⟨pq (by simp),E,⟨2::k.st,k.cl⟩,rfl,by simp;omega,λ_ _ _=>I.cast (by omega),λg=>?_⟩).cast (by omega))
    ·show _=(⟨cR k.cl d a::k.st,k.cl⟩:Kn);rw[ai]
    exfalso;simp at g
   ·have e0:t.kid 0=a:=by unfold Tr.kid;rw[z];rfl
    have e1:t.kid 1=b:=by unfold Tr.kid;rw[z];rfl
    have e2:t.kid 2=c:=by unfold Tr.kid;rw[z];rfl
    simp only[gL,cZ,fZ,Qo O,e0,e1,e2] at G I R⊢;have ha:=hw a (by rw[z];simp)
    have hb:=hw b (by rw[z];simp)
    have hc:=hw c (by rw[z];simp)
    have Y:=U a (by rw[z];simp)
    have ah:=U b (by rw[z];simp)
    have ap:=U c (by rw[z];simp)
    have ab:cR k.cl d a=2/\cR k.cl d b=cR k.cl d c:=by
     rw[cR,z,Qj (by simp)] at D
     simp only[QL,Q9,eD] at D;split at D
     ·rename_i g;exact g
     exact absurd rfl D
    have aj:cR k.cl (d+1) t=cR k.cl d b:=by
     rw[cR,z,Qj (by simp)];simp only[QL,Q9,eD];rw[Qo ab]
    rw[aj] at I;have aq:=G.left;have J:=G.right (fX _ _ _ _ _ _ _);have ad:=J.left;have ac:=J.right (fX _ _ _ _ _ _ _);have ak:=ac.tail;have kB:=jQ d hb ad (by simp)
    have kC:=jQ d hc ak (by simp)
    have cA:=ih ha E Y (λ_=>ab.1) V (by omega) aq kB (λ_=>⟨by omega,kC⟩)
    have cB:=ih hb E ah (by simp) V (by omega) ad ⟨_,ac.head,rfl⟩ (by simp)
    have cC:=ih hc E ap (by simp) V (by omega) ak (by show jd F _ (⟨cR k.cl d c::k.st,k.cl⟩);rw[<-ab.2];exact I.cast (by omega)) (by simp)
    have cJ:=eT.one ac.head ⟨pq (by simp),E,⟨cR k.cl d b::k.st,k.cl⟩,rfl,by simp;omega,λg=>by simp at g,λ_=>⟨by simp;omega,I.cast (by simp;omega)⟩⟩
    exact((cA.join cB).join (cJ.join cC)).cast (by omega)
   have af: ¬t.k=14:=by unfold fW at O;omega
   have ag: ¬t.k=19:=by unfold fW at O;omega
   have hl:t.kids.length=2:=by rw[z];rfl
   have e0:t.kid 0=a:=by unfold Tr.kid;rw[z];rfl
   have e1:t.kid 1=b:=by unfold Tr.kid;rw[z];rfl
   simp only[gL,cZ,fZ,Qj af,Qj ag,Qo hl,e0,e1] at G I R⊢;have ha:=hw a (by rw[z];simp)
   have hb:=hw b (by rw[z];simp)
   have Y:=U a (by rw[z];simp)
   have ah:=U b (by rw[z];simp)
   rw[tq z] at D I;have J:=G.right (fX _ _ _ _ _ _ _);have ac:=(J.right (fX _ _ _ _ _ _ _)).head;have kB:=jQ d (m:=none) hb J.left (by simp)
   have cA:=ih (m:=none) ha E Y (by simp) V (by omega) G.left kB (by simp)
   have cB:=ih (m:=none) (k:=⟨cR k.cl d a::k.st,k.cl⟩) hb E ah (by simp) (by simp;omega) (by simp;omega) J.left ⟨_,ac,rfl⟩ (by simp)
   have ov:=Mk t.k;have cJ:=eT.one (dep:=dep) (cells:=cells) ac ⟨pq (by simp;omega),E,_,GM O D,by simp;omega,λ_ _ _=>I.cast (by omega),λg=>by simp at g;omega⟩
   exact((cA.join cB).join cJ).cast (by omega)
  cases m with
  |none=>exact an R G I
  |some this=>
   have I:jd F (p+cZ jmp (d+1) (some this) t) k:=I;obtain⟨Z,ae⟩:=hT (by simp)
   have aa:=hm (by simp)
   cases hj:qe jmp t.k with
   |false=>
    have av:gL jmp (d+1) (some this) t k p T=gL jmp (d+1) none t k p 0++((if this then[⟨12,0,0,⟨2::k.st,k.cl⟩⟩] else[])++[⟨15,0,T,⟨2::k.st,k.cl⟩⟩]):=by
     simp only[gL,hj];rfl
    have aw:cZ jmp (d+1) (some this) t=cZ jmp (d+1) none t+(if this then 2 else 1):=by
     simp only[cZ,hj];rfl
    rw[av] at G;rw[aw] at I Z⊢;have ar:fZ jmp (d+1) none t k.st.length<=dep:=by
     have e:fZ jmp (d+1) (some this) t k.st.length=fZ jmp (d+1) none t k.st.length:=by simp only[fZ,hj];rfl
     omega
    have ay:=Ff (jmp:=jmp) (d+1) (b:=k.st.length) h;have J:=G.right (fX _ _ _ _ _ _ _);have ao:eo 15 0 ⟨2::k.st,k.cl⟩=some ⟨k.st,k.cl⟩:=rfl;cases this with
    |true=>
     have am:=Sub.head (s:=[⟨15,0,T,⟨2::k.st,k.cl⟩⟩]) J;have au:=Sub.head (Sub.tail (x:=⟨12,0,0,⟨2::k.st,k.cl⟩⟩) J);have c0:=an ar G.left ⟨_,am,by rw[aa]⟩
     have c1:=eT.one (dep:=dep) (cells:=cells) am ⟨pq (by simp),E,⟨2::k.st,k.cl⟩,rfl,by simp;omega,λ_ _ _=>⟨_,au,rfl⟩,λg=>by simp at g⟩
     have c2:=eT.one (dep:=dep) (cells:=cells) au ⟨pq (by simp),E,_,ao,by simp;omega,λ_ _ _=>I.cast (by simp;omega),λ_=>⟨by simp at Z⊢;omega,ae⟩⟩
     exact((c0.join c1).join c2).cast (by simp;omega)
    |false=>
     have am:=Sub.head J;have c0:=an ar G.left ⟨_,am,by rw[aa]⟩
     have c2:=eT.one am ⟨pq (by simp),E,_,ao,by simp;omega,λ_ _ _=>I.cast (by simp;omega),λ_=>⟨by simp at Z⊢;omega,ae⟩⟩
     exact(c0.join c2).cast (by simp;omega)
   |true=>
    simp only[gL,cZ,fZ,hj,RO] at G I Z R⊢;rcases h.1 with⟨O,z,_⟩|⟨O,a,z⟩|⟨O,a,b,c,z⟩|⟨O,a,b,z⟩
    ·have h2:t.k=20\/t.k=21:=by
      unfold qe at hj;unfold dJ at O;simp at hj;omega
     rw[Qo h2] at G I Z⊢;by_cases g:this=decide (t.k=20)
     ·rw[Qo g] at G I Z⊢;exact eT.one G.head ⟨pq (by simp),E,k,rfl,by omega,λg=>by simp at g,λ_=>⟨by simp;omega,ae⟩⟩
     rw[Qj g];intro i x g1 g2;omega
    ·have h2: ¬(t.k=20\/t.k=21):=by omega
     rw[Qj h2,Qo O] at G I Z R⊢;have e0:t.kid 0=a:=by unfold Tr.kid;rw[z];rfl
     rw[e0] at G I Z R⊢;have ha:=hw a (by rw[z];simp)
     have Y:=U a (by rw[z];simp)
     have ai:cR k.cl d a=2:=by
      rw[cR,z,Qj (by simp)] at D
      simp only[QL,Q9,eD] at D;split at D
      ·rename_i g;exact g
      exact absurd rfl D
     exact ih ha E Y (λ_=>ai) V R G I (λ_=>⟨Z,ae⟩)
    ·have h2: ¬(t.k=20\/t.k=21):=by omega
     have ag: ¬t.k=19:=by omega
     have e0:t.kid 0=a:=by unfold Tr.kid;rw[z];rfl
     have e1:t.kid 1=b:=by unfold Tr.kid;rw[z];rfl
     have e2:t.kid 2=c:=by unfold Tr.kid;rw[z];rfl
     rw[Qj h2,Qj ag,Qo O,e0,e1,e2] at G I Z R⊢;have ha:=hw a (by rw[z];simp)
     have hb:=hw b (by rw[z];simp)
     have hc:=hw c (by rw[z];simp)
     have Y:=U a (by rw[z];simp)
     have ah:=U b (by rw[z];simp)
     have ap:=U c (by rw[z];simp)
     have ab:cR k.cl d a=2/\cR k.cl d b=2/\cR k.cl d c=2:=by
      rw[cR,z,Qj (by simp)] at aa
      simp only[QL,Q9,eD] at aa;split at aa
      ·rename_i g;exact⟨g.1,aa,by rw[<-g.2];exact aa⟩
      cases aa
     have aq:=G.left;have J:=G.right (fX _ _ _ _ _ _ _);have ad:=J.left;have ac:=J.right (fX _ _ _ _ _ _ _);have ak:=ac.tail;have kJ:jd F (p+cZ jmp d (some false) a+cZ jmp d (some this) b) k:=⟨_,ac.head,rfl⟩;have kB:=jQ d hb ad (λ_=>kJ)
     have kE:jd F (p+cZ jmp d (some false) a+cZ jmp d (some this) b+1+cZ jmp d (some this) c) k:=I.cast (by omega)
     have kC:=jQ d hc ak (λ_=>kE)
     have cA:=ih ha E Y (λ_=>ab.1) V (by omega) aq kB (λ_=>⟨by omega,kC⟩)
     have cB:=ih hb E ah (λ_=>ab.2.1) V (by omega) ad kJ (λ_=>⟨by omega,ae⟩)
     have cC:=ih hc E ap (λ_=>ab.2.2) V (by omega) ak kE (λ_=>⟨by omega,ae⟩)
     have cJ:=eT.one ac.head ⟨pq (by simp),E,k,rfl,by omega,λg=>by simp at g,λ_=>⟨by simp;omega,kE⟩⟩
     exact((cA.join cB).join (cJ.join cC)).cast (by omega)
    have h2: ¬(t.k=20\/t.k=21):=by unfold fW at O;omega
    have ag: ¬t.k=19:=by unfold fW at O;omega
    have af: ¬t.k=14:=by unfold fW at O;omega
    have e0:t.kid 0=a:=by unfold Tr.kid;rw[z];rfl
    have e1:t.kid 1=b:=by unfold Tr.kid;rw[z];rfl
    rw[Qj h2,Qj ag,Qj af,e0,e1] at G I Z R⊢;have az:t.k=17\/t.k=18:=by
     unfold qe at hj;unfold fW at O;simp at hj;omega
    have ha:=hw a (by rw[z];simp)
    have hb:=hw b (by rw[z];simp)
    have Y:=U a (by rw[z];simp)
    have ah:=U b (by rw[z];simp)
    have ab:cR k.cl d a=2/\cR k.cl d b=2:=by
     rw[tq z] at D;simp only[eD] at D;rw[Qj (by omega),Qj (by omega),Qj (by omega)] at D
     split at D
     ·rename_i g;exact g
     exact absurd rfl D
    have ad:=G.right (fX _ _ _ _ _ _ _);have kE:jd F (p+cZ jmp d (some (decide (t.k=17))) a+cZ jmp d (some this) b) k:=I.cast (by omega)
    have kB:=jQ d hb ad (λ_=>kE)
    have cA:=ih ha E Y (λ_=>ab.1) V (by omega) G.left kB (λ_=>by
     split
     ·exact⟨by omega,ae⟩
     exact⟨by omega,kE⟩)
    have cB:=ih hb E ah (λ_=>ab.2) V (by omega) ad kE (λ_=>⟨by omega,ae⟩)
    exact(cA.join cB).cast (by omega)
def jt (z:Nat):Nat:=if z=12 then 17 else 18
def pw (jmp:Bool) (d:Nat):List fM->List Nat->Nat->List mX
 |[],lt,_=>[⟨18,0,0,⟨[],lt⟩⟩]
 |x::r,lt,p=>
  if x.kind=11 then gL jmp d none x.c ⟨[],lt⟩ p 0++(⟨5,x.wh,0,⟨[cR lt d x.c],lt⟩⟩::pw jmp d r (lt.set x.wh (cR lt d x.c)) (p+cZ jmp d none x.c+1))
  else gL jmp d (some false) x.c ⟨[],lt⟩ p (p+cZ jmp d (some false) x.c+1)++(⟨jt x.kind,x.wh,0,⟨[],lt⟩⟩::pw jmp d r lt (p+cZ jmp d (some false) x.c+1))
def LM (jmp:Bool) (d:Nat):List fM->Nat
 |[]=>0
 |x::r=>max (fZ jmp d (if x.kind=11 then none else some false) x.c 0) (LM jmp d r)
theorem Dt (jmp:Bool) (d):∀l:List fM,LM jmp d l<=d
 |[]=>QA _
 |x::r=>by
  have z:=rj jmp d (if x.kind=11 then none else some false) x.c 0;have D:=Dt jmp d r;rw[LM];omega
theorem vZ {F:List mX}:∀{l lt p},qc d lt l->Sub F p (pw jmp d l lt p)->jd F p ⟨[],lt⟩
 |[],lt,p,_,z=>⟨_,z.head,rfl⟩
 |x::r,lt,p,D,z=>by
  obtain⟨E,J,D⟩:=D;by_cases G:x.kind=11
  ·rw[pw,Qo G] at z;exact jQ d E z.left (by simp)
  rw[pw,Qj G] at z;have I:=z.right (fX _ _ _ _ _ _ _);exact jQ d E z.left (λ_=>⟨_,I.head,rfl⟩)
theorem tA {F jmp d dep cells} (I:cells<=255):∀{l lt p},qc d lt l->lt.length=cells->LM jmp d l<=dep->Sub F p (pw jmp d l lt p)->eT F dep cells p (p+(pw jmp d l lt p).length)
 |[],lt,p,_,E,_,G=>eT.one G.head ⟨⟨by simp,by simp,λ_=>by simp[dE],λg=>by simp[cG] at g⟩,E,⟨[],lt⟩,rfl,by simp,λ_ _ g=>absurd rfl g,λg=>by simp at g⟩
 |x::r,lt,p,D,E,U,G=>by
  obtain⟨Z,R,D⟩:=D;rw[LM] at U;rcases D with⟨V,hx,D⟩|⟨V,aa,hx,D⟩
  ·rw[Qo V] at U;rw[pw,Qo V] at G⊢;have z:=G.right (fX _ _ _ _ _ _ _);have Y:=vZ D z.tail;have c0:=Br I d (dep:=dep) (k:=⟨[],lt⟩) (m:=none) Z E R (by simp) (by simp) (by simp;omega) G.left ⟨_,z.head,rfl⟩ (by simp)
   have c1:=eT.one (dep:=dep) (cells:=cells) z.head ⟨⟨by simp,by simp,λ_=>by simp[dE];omega,λg=>by simp[cG] at g⟩,E,⟨[],lt.set x.wh (cR lt d x.c)⟩,by simp[eo],by simp,λ_ _ _=>Y,λg=>by simp at g⟩
   have c2:=tA I D (by simpa using E) (dep:=dep) (jmp:=jmp) (by omega) z.tail
   exact((c0.join c1).join c2).cast (by simp[fX];omega)
  have J: ¬x.kind=11:=by omega
  rw[Qj J] at U;rw[pw,Qj J] at G⊢;have z:=G.right (fX _ _ _ _ _ _ _);have Y:=vZ D z.tail;have c0:=Br I d (dep:=dep) (k:=⟨[],lt⟩) (m:=some false) Z E R (λ_=>aa) (by simp) (by simp;omega) G.left ⟨_,z.head,rfl⟩ (λ_=>⟨by omega,Y⟩)
  have O:jt x.kind=17\/jt x.kind=18:=by unfold jt;split<;>simp
  have c1:=eT.one (dep:=dep) (cells:=cells) z.head ⟨⟨by simp;omega,by simp;omega,λ_=>by rcases O with e|e<;>simp[dE,e]<;>omega,λg=>by rcases O with e|e<;>simp[cG,e] at g⟩,E,⟨[],lt⟩,by rcases O with e|e<;>simp[eo,e],by simp,λg1 g2 g3=>by simp at g1 g2 g3;omega,λg=>by simp at g;omega⟩
  have c2:=tA I D E (dep:=dep) (jmp:=jmp) (by omega) z.tail
  exact((c0.join c1).join c2).cast (by simp[fX];omega)
def um (n:Int) (left:Nat):UInt8:=UInt8.ofNat ((n /(256:Int)^left) %256).toNat
def ou (n:Int):Nat->List UInt8
 |0=>[]
 |c+1=>um n c::ou n c
theorem px (n:Int):∀c,(ou n c).length=c
 |0=>rfl
 |c+1=>by rw[ou,QH,px n c]
def NU (q:Nat×Int):List UInt8:=UInt8.ofNat q.1::ou q.2 (cG q.1 - 1)
def Kd (Q:List (Nat×Int)):List UInt8:=Q.flatMap NU
theorem Ke (n:Int) (c):(um n c).toNat=((n /(256:Int)^c) %256).toNat:=by
 unfold um;have z:0<=(n /256^c) %256:=TG _ (by decide)
 rw[R1];omega
theorem Fg (n:Int):∀(c i:Nat),i<c->cr (ou n c) i=(um n (c - 1 - i)).toNat
 |0,i,h=>by omega
 |c+1,0,_=>rfl
 |c+1,i+1,h=>by
  have:=Fg n c i (by omega)
  have e:cr (ou n (c+1)) (i+1)=cr (ou n c) i:=rfl;rw[e,this];congr 2;omega
def ki (x:ek):List Nat:=
 if x.op=15 then[x.pl+3,x.pl+3+x.n.toNat] else if x.op=16 then[x.pl+3+x.n.toNat] else if x.op=17\/x.op=18 then[] else[x.pl+cG x.op]
theorem Du (x:ek):(ki x).length<=2:=by unfold ki;(repeat' split)<;>simp
def yD (ins:List ek) (p:Nat):Bool:=ins.any λy=>y.pl==p
theorem Fh {ins:List ek} {p:Nat}:yD ins p=true↔ ∃j,j<ins.length/\(ins.getD j cH).pl=p:=by
 unfold yD;rw[TC];constructor
 ·rintro⟨y,D,e⟩;obtain⟨j,z,rfl⟩:=List.getElem_of_mem D;exact⟨j,z,by rw[Qi,Ql z];simpa using e⟩
 rintro⟨j,z,e⟩;exact⟨_,gY z,by simpa using e⟩
theorem Kf {ins:List ek} {j:Nat} (h:j<ins.length):yD ins (ins.getD j cH).pl=true:=Fh.2 ⟨j,h,rfl⟩
theorem tB {b:LB} {ins:List ek} (h:fg b ins):∀x∈ins,cG x.op≠0:=λx z=>(h.each x z).size
theorem we {b:LB} {ins} (h:fg b ins) (z:i<j) (D:j<ins.length):(ins.getD i cH).pl<(ins.getD j cH).pl:=by
 have E:=mr (tB h) h.order i j z D;have G:=tB h _ (gY (ins:=ins) (i:=i) (by omega))
 omega
theorem NV {b:LB} {ins} (h:fg b ins) (z:i<ins.length) (D:j<ins.length) (e:(ins.getD i cH).pl=(ins.getD j cH).pl):i=j:=by
 rcases Nat.lt_trichotomy i j with g|g|g
 ·have:=we h g D;omega
 ·exact g
 have:=we h g z;omega
theorem lJ {b:LB} {ins} (h:fg b ins) (z:i<ins.length):3<=(ins.getD i cH).pl/\(ins.getD i cH).pl<b.length:=(nJ (tB h) h.order).2 i z
theorem py {e:Nat}:∀{ins} {a:Nat},oh a e ins-> ∀i,i<ins.length->(i+1<ins.length->(ins.getD (i+1) cH).pl=(ins.getD i cH).pl+cG (ins.getD i cH).op)/\(¬i+1<ins.length->(ins.getD i cH).pl+cG (ins.getD i cH).op=e)
 |[],a,h,i,D=>by simp at D
 |x::r,a,h,i,D=>by
  obtain⟨E,z⟩:=h;cases i with
  |succ i=>
   have:=py z i (by simpa using D)
   simp only[QI,QH] at*;exact⟨λg=>this.1 (by omega),λg=>this.2 (by omega)⟩
  |zero=>
   cases r with
   |nil=>
    refine⟨λg=>by simp at g,λ_=>?_⟩
    have z:a+cG x.op=e:=z;simp;omega
   |cons y s=>
    refine⟨λ_=>?_,λg=>by simp at g⟩
    have h3:=z.1;simp;omega
def Ml (b:List UInt8) (ins:List ek) (p:Nat):Option Nat->Prop
 |some j=>j<ins.length/\(ins.getD j cH).pl=p
 |none=>b.length<=p\/yD ins p=false
theorem Mm {b:LB} {ins} (h:fg b ins) (z:i<ins.length):Ml b ins ((ins.getD i cH).pl+cG (ins.getD i cH).op) (if i+1<ins.length then some (i+1) else none):=by
 obtain⟨D,E⟩:=py h.order i z;split
 ·rename_i g;exact⟨g,D g⟩
 rename_i g;exact .inl (by rw[E g];exact Qn _)
theorem Mn (b:LB) (ins) (x:ek):Ml b ins (x.pl+3+x.n.toNat) (gn ins x):=by
 cases e:gn ins x with
 |none=>
  refine .inr ?_;unfold gn at e;rw[Ts] at e;unfold yD;rw[List.any_eq_false];intro y D;have:=e y D;simpa using this
 |some j=>
  unfold gn at e;rw[R2] at e;obtain⟨z,E,_⟩:=e;refine⟨z,?_⟩;rw[Qi,Ql z];simpa using E
theorem Kg {b:LB} {ins} (h:fg b ins) (O:i<ins.length):(ff ins i (ins.getD i cH)).length=(ki (ins.getD i cH)).length/\ ∀m,m<(ki (ins.getD i cH)).length->Ml b ins ((ki (ins.getD i cH)).getD m 0) ((ff ins i (ins.getD i cH)).getD m none):=by
 have I:=Mm h O;have J:=Mn b ins (ins.getD i cH);generalize ins.getD i cH=x at*;unfold ff ki;by_cases z:x.op=15
 ·rw[Qo z,Qo z];have e:cG x.op=3:=by rw[z];rfl
  rw[e] at I;refine⟨rfl,λm D=>?_⟩
  have:m=0\/m=1:=by simp at D;omega
  rcases this with rfl|rfl
  ·exact I
  exact J
 rw[Qj z,Qj z];by_cases E:x.op=16
 ·rw[Qo E,Qo E];refine⟨rfl,λm D=>?_⟩
  obtain rfl:m=0:=by simp at D;omega
  exact J
 rw[Qj E,Qj E];by_cases G:x.op=17\/x.op=18
 ·rw[Qo G,Qo G];exact⟨rfl,λm D=>by simp at D⟩
 rw[Qj G,Qj G];refine⟨rfl,λm D=>?_⟩
 obtain rfl:m=0:=by simp at D;omega
 exact I
structure I7 (b:List UInt8) (ins:List ek) (kl come:List (Option Kn)):Prop where
 plen:kl.length=b.length
 clen:come.length=ins.length
 same:∀i,i<ins.length->kl.getD (ins.getD i cH).pl none=come.getD i none
theorem I7.set {b:LB} {ins come} (h:I7 b ins D come) (E:fg b ins) (z:j<ins.length/\(ins.getD j cH).pl=p) (v):I7 b ins (D.set p v) (come.set j v):=by
 obtain⟨z,rfl⟩:=z;refine⟨by rw[Rx];exact h.plen,by rw[Rx];exact h.clen,λi G=>?_⟩
 by_cases e:j=i
 ·subst e;rw[cQ (by rw[h.plen];exact(lJ E z).2),cQ (by rw[h.clen];exact z)]
 rw[getD_set_ne (λg=>e (NV E z G g)),getD_set_ne e]
 exact h.same i G
theorem Dv {b:LB} {ins come} (h:I7 b ins D come) (I:fg b ins) (R:Ml b ins p o) (k) (r):
 (o=none->(b.length<=p\/yD ins p=false)/\dX come k (o::r)=none)/\
 (∀j,o=some j->p<b.length/\yD ins p=true/\j<ins.length/\(D.getD p none=none->dX come k (o::r)=dX (come.set j (some k)) k r/\I7 b ins (D.set p (some k)) (come.set j (some k)))/\(∀a,D.getD p none=some a->come.getD j none=some a/\(a.st≠k.st->dX come k (o::r)=none)/\(a.st=k.st->dX come k (o::r)=dX (come.set j (some ⟨a.st,im a.cl k.cl⟩)) k r/\I7 b ins (D.set p (some ⟨a.st,im a.cl k.cl⟩)) (come.set j (some ⟨a.st,im a.cl k.cl⟩))))):=by
 constructor
 ·rintro rfl;exact⟨R,rfl⟩
 rintro j rfl;obtain⟨z,J⟩:=R;have E:=(lJ I z).2;have G:=Kf z;have O:=h.same j z;rw[J] at E G O;refine⟨E,G,z,λe=>?_,λa e=>?_⟩
 ·rw[O] at e;exact⟨by simp only[dX,e],h.set I ⟨z,J⟩ _⟩
 rw[O] at e;refine⟨e,λg=>by simp only[dX,e];rw[Qj g],λg=>⟨by simp only[dX,e];rw[Qo g],h.set I ⟨z,J⟩ _⟩⟩
structure Fi (b:List UInt8) (ins:List ek) (depth at_ i) (kl come) (R):Prop where
 pc:I7 b ins kl come
 le:i<=ins.length
 old:∀j,j<i->(ins.getD j cH).pl<at_
 new:∀j,i<=j->j<ins.length->at_<=(ins.getD j cH).pl
 res:R=jw ins depth (ins.drop i) i come
theorem Fi.skip {b:LB} {ins at_ come} (h:Fi b ins z at_ i D come R) (E:yD ins at_=false):Fi b ins z (at_+1) i D come R:=
 ⟨h.pc,h.le,λj I=>by have:=h.old j I;omega,λj J G=>by
  have h3:=h.new j J G;rcases SU h3 with g|g
  ·exact g
  rw[g,Kf G] at E;exact absurd E (by decide),h.res⟩
theorem Fi.here {b:LB} {ins at_ come} (h:Fi b ins D at_ i E come R) (G:fg b ins) (I:yD ins at_=true):i<ins.length/\(ins.getD i cH).pl=at_/\E.getD at_ none=come.getD i none/\ins.drop i=ins.getD i cH::ins.drop (i+1):=by
 obtain⟨j,J,e⟩:=Fh.1 I;have O:i<=j:=Nat.le_of_not_lt λg=>by have:=h.old j g;omega
 have z:i<ins.length:=by omega
 have V:=h.new i (Qn _) z;have U:i=j:=by
  rcases SU O with g|g
  ·have:=we G g J;omega
  exact g
 subst U;refine⟨z,e,?_,?_⟩
 ·rw[<-e];exact h.pc.same i z
 rw[QF z,Qi,Ql z];rfl
theorem Fi.next {b:LB} {ins at_ come} (h:Fi b ins z at_ i I come R) (G:fg b ins) (J:yD ins at_=true) (O:I7 b ins E D) (U:R=jw ins z (ins.drop (i+1)) (i+1) D):Fi b ins z (at_+1) (i+1) E D R:=by
 obtain⟨V,e,_,_⟩:=h.here G J;refine⟨O,V,λj Y=>?_,λj h1 Z=>?_,U⟩
 ·rcases SU (Nat.le_of_lt_succ Y) with g|g
  ·have:=h.old j g;omega
  subst g;omega
 have:=we G (show i<j by omega) Z
 omega
theorem Fi.last {b:LB} {ins come} (h:Fi b ins z b.length i D come R) (E:fg b ins):R=true:=by
 have e:i=ins.length:=by
  rcases SU h.le with g|g
  ·have G:=h.new i (Qn _) g;have I:=(lJ E g).2;omega
  exact g
 rw[h.res,e,Sl];rfl
theorem Fi.first {b:LB} {ins:List ek} (z cells) (D:fg b ins) (G:0<ins.length):Fi b ins z 3 0 ((List.replicate b.length none).set 3 (some ⟨[],List.replicate cells 0⟩)) (iX cells ins.length) (jw ins z ins 0 (iX cells ins.length)):=by
 have I:(ins.getD 0 cH).pl=3:=by
  have:=D.order;cases ins with
  |nil=>simp at G
  |cons x r=>exact this.1
 have h3:3<b.length:=by have:=(lJ D G).2;omega
 refine⟨⟨by simp,pX _ _ G,λi O=>?_⟩,QA _,λj J=>by omega,λj _ J=>(lJ D J).1,by rw[S0]⟩
 cases i with
 |zero=>rw[I,cQ (by simpa using h3)];rfl
 |succ i=>
  have:=we D (show 0<i+1 by omega) O
  rw[getD_set_ne (by omega)]
  unfold iX;have e:∀n j,(List.replicate n (none:Option Kn)).getD j none=none:=λn j=>by
   rw[Qi,Q8];split<;>rfl
  rw[QI,e,e]
def Dw (n:Nat) (ins:List ek):List Bool:=(List.range n).map λp=>yD ins p
theorem se (n:Nat) (ins:List ek):(Dw n ins).length=n:=by simp[Dw]
theorem zJ (ins:List ek) {p:Nat} (h:p<n):(Dw n ins)[p]?=some (yD ins p):=by simp[Dw,h]
theorem GN {n:Nat} (ins) (x:ek):(Dw n ins).set x.pl true=Dw n (ins++[x]):=by
 apply Sb;intro p;by_cases z:p<n
 ·rw[zJ _ z];by_cases e:x.pl=p
  ·subst e;rw[List.getElem?_set_self (by rw[se];exact z)]
   simp[yD]
  rw[S9 e,zJ _ z];simp[yD,e]
 rw[QC (by rw[Rx,se];omega),QC (by rw[se];omega)]
structure wg (b:List UInt8) (a:Nat) (pre) (R):Prop where
 le:a<=b.length
 go:∃f,b.length<f+a/\R=(qM f b a).map (pre++ ·)
theorem wg.first {b:LB} (h:3<=b.length):wg b 3 [] (qM (b.length+1) b 3):=⟨h,b.length+1,by omega,by simp⟩
theorem wg.bad {b:LB} (h:wg b a pre R) (D:a<b.length) (z: ¬(cG (cr b a)≠0/\a+cG (cr b a)<=b.length/\(cG (cr b a)=2->(cr b (a+1))<=dE (cr b a) (cr b 2)))):R=none:=by
 obtain⟨f,E,e⟩:=h.go;rw[e];cases f with
 |zero=>rfl
 |succ f=>rw[qM,Qj (by omega),Qj z];rfl
theorem wg.step {b:LB} (h:wg b a pre R) (D:a<b.length) (z:cG (cr b a)≠0/\a+cG (cr b a)<=b.length/\(cG (cr b a)=2->(cr b (a+1))<=dE (cr b a) (cr b 2))):wg b (a+cG (cr b a)) (pre++[vP b a]) R:=by
 obtain⟨f,E,e⟩:=h.go;cases f with
 |zero=>omega
 |succ f=>
  refine⟨z.2.1,f,by have:=z.1;omega,?_⟩
  rw[e,qM,Qj (by omega),Qo z,Option.map_map]
  congr 1;funext l;simp
theorem wg.last {b:LB} (h:wg b a pre R) (z:b.length<=a):R=some pre:=by
 obtain⟨f,D,e⟩:=h.go;rw[e];cases f with
 |succ f=>rw[qM,Qo z];simp
 |zero=>have:=h.le;omega
def Qa (l:List mX):Nat:=(l.map λx=>cG x.op).sum
theorem Fj {d:Nat} {t a:Tr} (z:t.kids=[a]):eP (d+1) t=1+eP d a:=by rw[eP,z];simp
theorem Fk {d:Nat} {t a b:Tr} (z:t.kids=[a,b]):eP (d+1) t=1+eP d a+eP d b:=by rw[eP,z];simp;omega
theorem Kh {d:Nat} {t a b c:Tr} (z:t.kids=[a,b,c]):eP (d+1) t=1+eP d a+eP d b+eP d c:=by rw[eP,z];simp;omega
def PJ (F:List mX) (i:Nat):Nat:=3+Qa (F.take i)
def Mo (F:List mX) (i:Nat) (x:mX):Int:=if x.op=15\/x.op=16 then(PJ F x.to:Int) - PJ F i - 3 else x.n
def qF (F:List mX):List (Nat×Int):=F.mapIdx λi x=>(x.op,Mo F i x)
def Ki (dep cells:Nat) (F:List mX):List UInt8:=[71,UInt8.ofNat dep,UInt8.ofNat cells]++([]++Kd (qF F))
theorem Pe {F:List mX} {x:mX} (h:F[i]?=some x):(qF F)[i]?=some (x.op,Mo F i x):=by
 unfold qF;rw[List.getElem?_mapIdx,h];rfl
theorem NW (F:List mX):(qF F).length=F.length:=by simp[qF]
def ln:List fM->Nat->Nat
 |[],c=>c
 |x::r,c=>ln r (if x.kind=11 then x.wh+1 else c)
def Np (x:fM):Nat×Nat:=(x.kind,x.wh)
def Qb (p q:Nat×Nat):Prop:=p.1=11->q.1=11->p.2<q.2
theorem tC:∀{l:List fM} {c:Nat},(l.map Np).Pairwise Qb->(∀x∈l,x.kind=11->c<=x.wh)->c<=ln l c/\ ∀x∈l,x.kind=11->x.wh<ln l c
 |[],c,_,_=>⟨Qn _,by simp⟩
 |x::r,c,G,J=>by
  rw[QL,List.pairwise_cons] at G;rw[ln];by_cases E:x.kind=11
  ·rw[Qo E];obtain⟨O,I⟩:=tC (c:=x.wh+1) G.2 (λy z D=>by
    have:=G.1 (Np y) (RB z) E D;exact this)
   have:=J x (by simp) E
   refine⟨by omega,λy z D=>?_⟩
   simp only[Ra] at z;rcases z with rfl|z
   ·omega
   exact I y z D
  rw[Qj E];obtain⟨O,I⟩:=tC G.2 (λy z=>J y (by simp[z]))
  refine⟨O,λy z D=>?_⟩
  simp only[Ra] at z;rcases z with rfl|z
  ·exact absurd D E
  exact I y z D
theorem GO {m:Nat} (h:∀x∈l,x.kind=11->x.wh<m):∀{c:Nat},c<=m->ln l c<=m:=by
 induction l with
 |nil=>intro c z;exact z
 |cons x r ih=>
  intro c z;rw[ln];refine ih (λy D=>h y (by simp[D])) ?_
  split
  ·rename_i E;have:=h x (by simp) E;omega
  exact z
theorem Bs {lt lt':List Nat} (h:∀i,lt'.getD i 0=lt.getD i 0) (d):∀t:Tr,cR lt' d t=cR lt d t:=by
 induction d with
 |zero=>intro t;rfl
 |succ d ih=>
  intro t;rw[cR,cR,QY (λc _=>ih c)]
  unfold dY;rw[h]
theorem Kj {lv lv' fl:List Int} (h:∀i,lv'.getD i 0=lv.getD i 0) (d):∀t:Tr,fT lv' fl d t=fT lv fl d t:=by
 induction d with
 |zero=>intro t;rfl
 |succ d ih=>
  intro t;rw[fT,fT,QY (λc _=>ih c)]
  unfold iq;rw[h]
theorem zK {α:Type} {l z:List α} {d:α} (h:∀i,z.getD i d=l.getD i d) (D:j<l.length) (E:j<z.length) (v:α):∀i,(z.set j v).getD i d=(l.set j v).getD i d:=λi=>by
 by_cases e:j=i
 ·subst e;rw[cQ D,cQ E]
 rw[getD_set_ne e,getD_set_ne e,h]
theorem qc.other {d:Nat}:∀{l} {lt lt':List Nat},qc d lt l->(∀i,lt'.getD i 0=lt.getD i 0)->(∀x∈l,x.kind=11->x.wh<lt'.length)->qc d lt' l
 |[],_,_,_,_,_=>trivial
 |x::r,lt,lt',h,E,D=>by
  obtain⟨U,V,h3⟩:=h;have e:=Bs E d x.c;refine⟨U,by rw[e];exact V,?_⟩
  rcases h3 with⟨z,G,I⟩|⟨z,O,G,I⟩
  ·refine .inl ⟨z,D x (by simp) z,qc.other I (by rw[e];exact zK E G (D x (by simp) z) _) (λy J R=>by rw[Rx];exact D y (by simp[J]) R)⟩
  exact .inr ⟨z,by rw[e];exact O,G,qc.other I E (λy J=>D y (by simp[J]))⟩
theorem Dx {d:Nat}:∀{l} {lt:List Nat},qc d lt l-> ∀x∈l,x.kind=11->x.wh<lt.length
 |[],_,_=>by simp
 |x::r,lt,h=>by
  obtain⟨O,R,h3⟩:=h;intro y z E;simp only[Ra] at z;rcases h3 with⟨G,I,D⟩|⟨G,J,I,D⟩
  ·rcases z with rfl|z
   ·exact I
   have:=Dx D y z E;simpa using this
  rcases z with rfl|z
  ·omega
  exact Dx D y z E
theorem uV {p} {d:Nat}:∀{l lets},((tu p d lets l).map Np).Sublist (l.map Np)
 |[],_=>List.Sublist.slnil
 |x::r,lets=>by
  rw[tu];split
  ·exact(uV).trans (SW _ _)
  exact(uV).cons_cons _
theorem wm:∀{l:List fM},(jy l).Sublist l
 |[]=>List.Sublist.slnil
 |x::r=>by
  rw[jy];split
  ·exact(wm).trans (SW _ _)
  split
  ·exact(List.nil_sublist r).cons_cons _
  exact(wm).cons_cons _
theorem wo {d:Nat}:∀{l:List fM},(iJ d l).1.Sublist l
 |[]=>List.Sublist.slnil
 |x::r=>by
  rw[iJ];split
  ·exact(wo).trans (SW _ _)
  exact(wo).cons_cons _
theorem Kk {p:mW} {l:List fM}:((po p d l).map Np).Sublist (l.map Np):=by
 unfold po;split
 ·exact((wo.trans wm).map Np).trans uV
 exact uV
theorem wq:∀{l:List fM} {m:Nat},ot m l->(l.map Np).Pairwise Qb/\ ∀x∈l,x.kind=11->m<=x.wh
 |[],_,_=>⟨List.Pairwise.nil,by simp⟩
 |x::r,m,h=>by
  rcases h with⟨G,U,h⟩|⟨G,h⟩
  ·obtain⟨I,E⟩:=wq h;refine⟨List.Pairwise.cons (λy D J O=>?_) I,λy D g=>?_⟩
   ·obtain⟨z,R,rfl⟩:=RC.1 D;have:=E z R O;show x.wh<z.wh;omega
   simp only[Ra] at D;rcases D with rfl|D
   ·omega
   have:=E y D g;omega
  obtain⟨I,E⟩:=wq h;refine⟨List.Pairwise.cons (λy D J O=>absurd J G) I,λy D g=>?_⟩
  simp only[Ra] at D;rcases D with rfl|D
  ·exact absurd g G
  exact E y D g
def ow (p:mW) (d:Nat) (l:List fM):List UInt8:=
 Ki (LM p.jmp d (po p d l)) (ln (po p d l) 0) (pw p.jmp d (po p d l) (List.replicate (ln (po p d l) 0) 0) 0)
def Kl (p:mW) (lets:List Tr) (d:Nat) (t:Tr):Tr:=⟨t.k,t.n,t.l,t.kids.map (kF p lets d)⟩
def Km (p:mW) (lets:List Tr) (d:Nat) (t:Tr):Tr:=if p.inl then oi lets (Kl p lets d t) else Kl p lets d t
def Nq (p:mW) (lets:List Tr) (d:Nat) (t:Tr):Tr:=if p.fol then mx (d+1) (Km p lets d t) else Km p lets d t
theorem yE {lt} (R:vS p lets lt lt' lv lv' fl) (hV:lH lt' lv') (hF:dL fl) (h:gU (d+1) t) (J:cR lt (d+1) t≠0):Alike lt lt' lv lv' fl (d+1) t (Km p lets d t):=by
 unfold Km Kl;have Y:=oq h J;have G:∀c∈t.kids,Alike lt lt' lv lv' fl d c (kF p lets d c):=λc D=>vV R hV hF (h.2 c D) (Y c D)
 have Z:(t.kids.map (kF p lets d)).map (cR lt' d)=t.kids.map (cR lt d):=by
  rw[R3];exact QY λc D=>(G c D).ty
 have aa:(t.kids.map (kF p lets d)).map (fT lv' fl d)=t.kids.map (fT lv fl d):=by
  rw[R3];exact QY λc D=>(G c D).ev
 have ab:gU (d+1) ⟨t.k,t.n,t.l,t.kids.map (kF p lets d)⟩:=by
  refine⟨?_,λc D=>?_⟩
  ·rcases h.1 with⟨E,z,h3,h4⟩|⟨E,a,z⟩|⟨E,a,b,c,z⟩|⟨E,a,b,z⟩
   ·exact .inl ⟨E,by rw[z];rfl,h3,h4⟩
   ·exact .inr (.inl ⟨E,_,by rw[z];rfl⟩)
   ·exact .inr (.inr (.inl ⟨E,_,_,_,by rw[z];rfl⟩))
   ·exact .inr (.inr (.inr ⟨E,_,_,by rw[z];rfl⟩))
  ·obtain⟨x,hx,rfl⟩:=RC.1 D
   exact(G x hx).wf
 have ac:eP (d+1) ⟨t.k,t.n,t.l,t.kids.map (kF p lets d)⟩<=eP (d+1) t:=by
  rw[eP,eP];simp only[R3];have:=rh (l:=t.kids) (f:=eP d∘kF p lets d) (g:=eP d) λc D=>(G c D).cnt
  omega
 have base:(t.k=2->lt'.getD t.l.toNat 0=lt.getD t.l.toNat 0/\lv'.getD t.l.toNat 0=lv.getD t.l.toNat 0)->Alike lt lt' lv lv' fl (d+1) t ⟨t.k,t.n,t.l,t.kids.map (kF p lets d)⟩:=λhl=>by
  refine⟨ab,?_,?_,ac⟩
  ·rw[cR,cR]
   simp only[Z,Te];have e:dY lt' ⟨t.k,t.n,t.l,t.kids.map (kF p lets d)⟩=dY lt t:=by
    unfold dY;simp only[]
    by_cases E:t.k=1
    ·rw[Qo E,Qo E]
    ·rw[Qj E,Qj E]
     by_cases z:t.k=2
     ·rw[Qo z,Qo z,(hl z).1]
     ·rw[Qj z,Qj z]
   rw[e]
  rw[fT,fT];simp only[aa]
  congr 1
  unfold iq;simp only[]
  by_cases E:t.k=1
  ·rw[Qo E,Qo E]
  ·rw[Qj E,Qj E]
   by_cases z:t.k=2
   ·rw[Qo z,Qo z,(hl z).2]
   ·rw[Qj z,Qj z]
 have I:t.k=2->t.kids=[]/\lt.getD t.l.toNat 0≠0:=λz=>by
  have O:=oj h (by unfold dJ;omega)
  refine⟨O,?_⟩;rw[cR,Qo O] at J;unfold dY at J
  rwa [Qj (by omega),Qo z] at J
 by_cases U:p.inl=true
 ·rw[Qo U]
  unfold oi;simp only[]
  by_cases D:t.k=2/\(lets.getD t.l.toNat fQ).kids=[]
  ·rw[Qo D]
   obtain⟨O,ad⟩:=I D.1;obtain⟨V,o2,o3⟩:=R.one _ ad U D.2;refine⟨V.up (by omega),?_,?_,?_⟩
   ·rw[mO V (by omega),o2,cR,Qo O]
    unfold dY;rw[Qj (by omega),Qo D.1]
   ·rw[pn V (by omega),o3,fT,O]
    show _=iq lv fl t
    unfold iq;rw[Qj (by omega),Qo D.1]
   ·rw[pY V (by omega),eP,D.2]
    have:=rZ h
    simpa using this
  ·rw[Qj D]
   refine base λz=>?_
   exact R.same _ (I z).2 λe=>D ⟨z,e.2⟩
 ·rw[Qj U]
  exact base λz=>R.same _ (I z).2 λe=>U e.1
theorem GP {lt} (I:vS p lets lt lt' lv lv' fl) (E:lH lt' lv') (G:dL fl) (h:gU (d+1) t) (D:cR lt (d+1) t≠0):Alike lt lt' lv lv' fl (d+1) t (Nq p lets d t):=by
 have z:=yE I E G h D;unfold Nq
 split
 ·exact z.trans (vU E G z.wf (by rw[z.ty];exact D))
 ·exact z
end Go.Proofs.YtfkdailfcmnjlaaGreatDoor
