/-
  A part.
-/
import Derived.Test.YtfkdailfcmnjlaaGreatDoorCompiles12
import Derived.Test.YtfkdailfcmnjlaaGreatDoorCompiles15
set_option linter.all false
set_option maxHeartbeats 40000000
set_option maxRecDepth 1000000
namespace Go.Proofs.YtfkdailfcmnjlaaGreatDoor
open Go Go.RowKit
variable {vals c v xs fl t L f J i a j b cl x k k' st E C lv d lv' G n p lets lt'}
def nU (xs:List dk) (vals fl:List Int) (t:Tok):Int:=
 if t.k=110 then dG t.text else if t.k=111 then vals.getD (cW xs t.text vals.length).toNat 0
 else if 0<=du dz t.text then fl.getD (du dz t.text).toNat 0 else if 0<=du dw t.text then du dw t.text else cR (t.text==mn)
def wT (s:List UInt8) (w:Int):List Int->Int
 |[]=>w
 |[a]=>1 - a
 |[a,b]=>oA s a b
 |a::b::c::_=>if a=1 then b else c
def gR (xs:List dk) (vals fl:List Int) (L:List Pt):Nat->Nat->Int
 |0,_=>0
 |f+1,k=>wT (L.getD k cD).tok.text (nU xs vals fl (L.getD k cD).tok) ((L.getD k cD).subs.map (gR xs vals fl L f))
def Nc (c:UInt8) (v:Int):Prop:=dL v/\(c=116->v=0\/v=1)
theorem ju (c:UInt8) (b:Bool):Nc c (cR b):=by
 unfold cR Nc dL;cases b<;>simp
def Rj:List UInt8:=[110,110,110,110,109,109,109,116,116]
structure gh (fl:List Int):Prop where
 len:fl.length=9
 has:∀i,i<9->Nc (Rj.getD i 0) (fl.getD i 0)
structure mJ (its:List UInt8) (vals:List Int):Prop where
 len:vals.length=its.length
 has:∀i,i<its.length->Nc (its.getD i 0) (vals.getD i 0)
theorem mJ.snoc {its:LB} (h:mJ its vals) (D:Nc c v):mJ (its++[c]) (vals++[v]):=by
 refine⟨by simp[h.len],λi E=>?_⟩
 have G:=h.len;rcases SZ i its.length with z|z
 ·have:=h.has i z;rw[RG,RG] at this⊢;rw[Si (by omega),Si (by omega)];exact this
 have e:i=its.length:=by simp at E;omega
 subst e;rw[RG,RG,Sg (by omega),Sg (by omega),G]
 simpa using D
theorem NI (s:LB) {a b:Int} (c) (h:s=[43]\/s=[45]->c≠116):Nc c (oA s a b):=by
 unfold oA;by_cases z:s=[43]
 ·rw[RK z];exact⟨nN _,λe=>absurd e (h (.inl z))⟩
 rw[RH z];by_cases D:s=[45]
 ·rw[RK D];exact⟨nN _,λe=>absurd e (h (.inr D))⟩
 rw[RH D];split
 ·exact ju _ _
 split
 ·exact ju _ _
 split
 ·exact ju _ _
 split
 ·exact ju _ _
 exact ju _ _
theorem EV (x:LB) (h:0<=du dz x):∃n:Nat,du dz x=n/\n<9:=by
 have:=wE dz x;have e:dz.length=9:=rfl;exact⟨(du dz x).toNat,by omega,by omega⟩
theorem Cr (x:LB) (h:0<=du dw x):du dw x<5:=by
 have:=wE dw x;have e:dw.length=5:=rfl;omega
theorem NJ (x:LB) (h:x=[43]\/x=[45]) (s:LB):zh x s≠116:=by
 have e:zh x s=UInt8.ofNat (if s=[110,110] then 110 else 0):=by
  rcases h with rfl|rfl<;>rfl
 rw[e];split<;>decide
theorem LG (s:LB) (h:zh iw s≠0):s=[116]:=by
 have e:zh iw s=UInt8.ofNat (if s=[116] then 116 else 0):=rfl;rw[e] at h;by_cases z:s=[116]
 ·exact z
 rw[RH z] at h;exact absurd rfl h
theorem QK {a b c:UInt8} (h:zh lT [a,b,c]≠0):a=116/\b=c/\zh lT [a,b,c]=b:=by
 have e:zh lT [a,b,c]=UInt8.ofNat (if a.toNat=116/\b.toNat=c.toNat then b.toNat else 0):=rfl;rw[e] at h;by_cases z:a.toNat=116/\b.toNat=c.toNat
 ·refine⟨Tq.1 z.1,Tq.1 z.2,?_⟩;rw[e,RK z,TW]
 rw[RH z] at h;exact absurd rfl h
theorem LH {its:LB} (G:mJ its vals) (J:gh fl) (U:dP t=true) (O:t.k=110->dG t.text<=9223372036854775807)
 (R:t.k=111->0<=cW xs t.text its.length):Nc (UInt8.ofNat (eT xs its t [])) (nU xs vals fl t):=by
 unfold nU eT;by_cases D:t.k=110
 ·rw[RK D,RK D];have:=O D;exact⟨by unfold dL;omega,λe=>absurd e (by decide)⟩
 rw[RH D,RH D];by_cases E:t.k=111
 ·rw[RK E,RK E,G.len];have h3:=R E;have z:=(sk xs t.text its.length).1;rw[TW];exact G.has _ (by omega)
 rw[RH E,RH E];by_cases h3:0<=du dz t.text
 ·rw[RK h3,RK h3];obtain⟨n,e,I⟩:=EV _ h3;rw[e,Tf,TW];exact J.has n I
 rw[RH h3,RH h3];by_cases z:0<=du dw t.text
 ·rw[RK z,RK z];have:=Cr _ z;exact⟨by unfold dL;omega,λe=>absurd e (by decide)⟩
 rw[RH z,RH z];exact ju _ _
theorem pQ {its:LB} (hV:mJ its vals) (hF:gh fl) (hN:∀k,k<L.length->(L.getD k cD).tok.k=110->dG (L.getD k cD).tok.text<=9223372036854775807) (f):
 ∀{J i},dN f L J i->nS xs its.length L J (i+1)->dr xs its L f i≠0->Nc (dr xs its L f i) (gR xs vals fl L f i):=by
 induction f with
 |zero=>intro J i h;exact h.elim
 |succ f ih=>
  intro J i h Z z;rw[gR];rw[dr] at z⊢;by_cases U:((L.getD i cD).subs.map (dr xs its L f)).contains 0=true
  ·rw[RK U] at z;exact absurd rfl z
  rw[RH U] at z⊢;have E:∀j∈(L.getD i cD).subs,Nc (dr xs its L f j) (gR xs vals fl L f j):=λj O=>by
   obtain⟨ad,a,b,c⟩:=gW _ h.2.2 j O;refine ih c (λq V G=>Z q (by omega) (by omega)) λe=>U ?_
   rw[Sd,<-e];exact Tk O
  rcases h.2.1 with⟨ha,hs⟩|⟨Y,I⟩|⟨Y,I⟩|⟨n,_,O,I⟩
  ·rw[hs];exact LH hV hF ha (hN i h.1) λho=>(Z i h.le (by omega) ho).2
  ·obtain⟨e,hk⟩:=ji Y;obtain⟨a,D⟩:∃a,(L.getD i cD).subs=[a]:=Tu.1 I;rw[pK xs its (by omega) (by omega),e,D] at z⊢
   have V:=E a (by rw[D];simp)
   have G:=LG _ z;simp only[Sa,SA,TX,Uj] at G;have h3:=V.2 G;simp only[Sa,SA,wT];refine⟨?_,λ_=>?_⟩
   ·unfold dL;omega
   omega
  ·obtain⟨e,hk⟩:=ji Y;obtain⟨a,b,c,D⟩:∃a b c,(L.getD i cD).subs=[a,b,c]:=tW I;rw[pK xs its (by omega) (by omega),e,D] at z⊢
   simp only[Sa,SA] at z⊢;obtain⟨V,G,h3⟩:=QK z;rw[h3];simp only[wT];split
   ·exact E b (by rw[D];simp)
   rw[G];exact E c (by rw[D];simp)
  obtain⟨e,hk⟩:=oD O;obtain⟨a,b,D⟩:∃a b,(L.getD i cD).subs=[a,b]:=Aj I;rw[pK xs its (by omega) (by omega),D]
  simp only[Sa,SA,wT];exact NI _ _ λh=>NJ _ h _
theorem IA {its:LB} (Y:mJ its vals) (Z:gh fl) (hN:∀k,k<L.length->(L.getD k cD).tok.k=110->dG (L.getD k cD).tok.text<=9223372036854775807) (h:dN (f+1) L J i) (hg:nS xs its.length L J (i+1)) (z:dr xs its L (f+1) i≠0) (D:(L.getD i cD).subs=[a]):
 gR xs vals fl L f a=0\/gR xs vals fl L f a=1:=by
 rw[dr] at z;by_cases I:((L.getD i cD).subs.map (dr xs its L f)).contains 0=true
 ·rw[RK I] at z;exact absurd rfl z
 rw[RH I] at z;obtain⟨aa,h1,G,h3⟩:=gW _ h.2.2 a (by rw[D];simp)
 have hh:=pQ Y Z hN f h3 (λq h1 G=>hg q (by omega) (by omega)) λe=>I (by rw[Sd,<-e];exact Tk (by rw[D];simp))
 rcases h.2.1 with⟨_,O⟩|⟨hw,E⟩|⟨_,E⟩|⟨n,_,_,E⟩
 ·rw[D] at O;simp at O
 ·obtain⟨e,hk⟩:=ji hw;rw[pK xs its (by omega) (by omega),e,D] at z
  have G:=LG _ z;simp only[Sa,SA,TX,Uj] at G;exact hh.2 G
 ·rw[D] at E;simp at E
 rw[D] at E;simp at E
structure ey where
 op:Nat
 n:Int
 pl:Nat
def cI:ey:=⟨0,0,0⟩
def cE (z:Nat):Nat:=if z=1 then 9 else if 2<=z/\z<=6 then 2 else if 7<=z/\z<=14 then 1 else if z=15\/z=16 then 3 else if z=17\/z=18 then 2 else 0
def dC (z cells:Nat):Int:=if z=2 then 1 else if z=3 then 4 else if z=4 then 8 else if z=5\/z=6 then(cells:Int) - 1 else 255
def cy (b:List UInt8) (i:Nat):Nat:=(b.getD i 0).toNat
def eO (b:List UInt8) (i:Nat):Nat->Nat
 |0=>0
 |n+1=>eO b i n*256+cy b (i+n)
def fg (n:Nat):Int:=if n<9223372036854775808 then(n:Int) else(n:Int) - 18446744073709551616
def mK (b:List UInt8) (z at_:Nat):Int:=if z=1 then fg (eO b (at_+1) 8) else(eO b (at_+1) (cE z - 1):Int)
def pR (b:List UInt8) (at_:Nat):ey:=⟨cy b at_,mK b (cy b at_) at_,at_⟩
def pj:Nat->List UInt8->Nat->Option (List ey)
 |0,_,_=>none
 |f+1,b,a=>if b.length<=a then some [] else if cE (cy b a)≠0/\a+cE (cy b a)<=b.length/\(cE (cy b a)=2->(cy b (a+1):Int)<=dC (cy b a) (cy b 2)) then(pj f b (a+cE (cy b a))).map (pR b a:: ·) else none
structure Kn where
 st:List Nat
 cl:List Nat
def jw (n:Nat):Nat:=if n<=3 then 1 else if n<=6 then 3 else 2
def kV (z more:List Nat) (k:Kn):Option Kn:=if k.st.take z.length=z then some ⟨more++k.st.drop z.length,k.cl⟩ else none
def dZ (z n:Nat) (k:Kn):Option Kn:=
 if z=1 then some ⟨1::k.st,k.cl⟩
 else if z=2 then some ⟨2::k.st,k.cl⟩
 else if z=3 then some ⟨3::k.st,k.cl⟩
 else if z=4 then some ⟨jw n::k.st,k.cl⟩
 else if z=5 then(match k.st with
  |[]=>none
  |t::r=>some ⟨r,k.cl.set n t⟩)
 else if z=6 then(if k.cl.getD n 0=0 then none else some ⟨k.cl.getD n 0::k.st,k.cl⟩)
 else if z=7\/z=8 then kV [1,1] [1] k
 else if z=9 then(match k.st with
  |x::y::r=>if x=y then some ⟨2::r,k.cl⟩ else none
  |_=>none)
 else if z=10\/z=11 then kV [1,1] [2] k
 else if z=12 then kV [2] [2] k
 else if z=13\/z=14 then kV [2,2] [2] k
 else if z=15 then kV [2] [] k
 else some k
def fS (ins:List ey) (x:ey):Option Nat:=ins.findIdx? λy=>y.pl==x.pl+3+x.n.toNat
def fb (ins:List ey) (i:Nat) (x:ey):List (Option Nat):=
 if x.op=15 then[if i+1<ins.length then some (i+1) else none,fS ins x]
 else if x.op=16 then[fS ins x]
 else if x.op=17\/x.op=18 then[]
 else[if i+1<ins.length then some (i+1) else none]
def hU (a b:List Nat):List Nat:=List.zipWith (λx y=>if x=y then x else 0) a b
def dU (come:List (Option Kn)) (k:Kn):List (Option Nat)->Option (List (Option Kn))
 |[]=>some come
 |none::_=>none
 |some j::r=>match come.getD j none with
  |none=>dU (come.set j (some k)) k r
  |some a=>if a.st=k.st then dU (come.set j (some ⟨a.st,hU a.cl k.cl⟩)) k r else none
def iZ (ins:List ey) (z:Nat):List ey->Nat->List (Option Kn)->Bool
 |[],_,_=>true
 |x::r,i,come=>match come.getD i none with
  |none=>iZ ins z r (i+1) come
  |some k=>match dZ x.op x.n.toNat k with
   |none=>false
   |some E=>if z<E.st.length then false else(match dU come E (fb ins i x) with
    |none=>false
    |some D=>iZ ins z r (i+1) D)
def iG (cells n:Nat):List (Option Kn):=some ⟨[],List.replicate cells 0⟩::List.replicate (n - 1) none
def fE (b:List UInt8):Option (List ey):=
 if b.length<4\/4000<b.length\/cy b 0≠71\/24<cy b 1 then none else
 match pj (b.length+1) b 3 with
 |none=>none
 |some ins=>if iZ ins (cy b 1) ins 0 (iG (cy b 2) ins.length) then some ins else none
def lz (z:Nat) (a b:Int):Int:=
 if z=7 then fy (a+b) else if z=8 then fy (a - b) else if z=9 then cR (a==b) else if z=10 then cR (decide (a<b))
 else if z=11 then cR (decide (a<=b)) else if z=13 then cR (a==1&&b==1) else cR (a==1||b==1)
def gj (fl:List Int) (x:ey) (st cl:List Int):Option (List Int×List Int×Bool):=
 if x.op=1\/x.op=2\/x.op=3 then some (x.n::st,cl,false)
 else if x.op=4 then some (fl.getD x.n.toNat 0::st,cl,false)
 else if x.op=5 then(match st with
  |[]=>none
  |v::r=>some (r,cl.set x.n.toNat v,false))
 else if x.op=6 then some (cl.getD x.n.toNat 0::st,cl,false)
 else if x.op=12 then(match st with
  |[]=>none
  |v::r=>some ((1 - v)::r,cl,false))
 else if x.op=15 then(match st with
  |[]=>none
  |v::r=>some (r,cl,v==0))
 else if x.op=16 then some (st,cl,true)
 else(match st with
  |b::a::r=>some (lz x.op a b::r,cl,false)
  |_=>none)
def nV (ins:List ey) (fl:List Int):Nat->Nat->List Int->List Int->Nat->Option (Bool×Nat×Nat)
 |0,_,_,_,_=>none
 |f+1,i,st,cl,n=>
  if i<ins.length then
   if(ins.getD i cI).op=17\/(ins.getD i cI).op=18 then some (decide ((ins.getD i cI).op=17),(ins.getD i cI).n.toNat,n+1)
   else match gj fl (ins.getD i cI) st cl with
    |none=>none
    |some (st',cl',false)=>nV ins fl f (i+1) st' cl' (n+1)
    |some (st',cl',true)=>match fS ins (ins.getD i cI) with
     |none=>none
     |some j=>nV ins fl f j st' cl' (n+1)
  else none
theorem fq (b:LB) (i:Nat):cy b i<256:=UInt8.toNat_lt _
theorem pS (b:LB) (i n:Nat):eO b i n<256^n:=by
 induction n with
 |zero=>simp[eO]
 |succ n ih=>rw[eO,UT];have:=fq b (i+n);omega
theorem IB {n:Nat} (h:n<18446744073709551616):dL (fg n):=by
 unfold fg dL;split<;>omega
theorem vH (z:Nat):cE z<=9:=by unfold cE;(repeat' split)<;>omega
theorem Ay {z:Nat} (h:cE z≠0):1<=z/\z<=18:=by
 unfold cE at h;by_cases D:z=1
 ·omega
 rw[RH D] at h;by_cases E:2<=z/\z<=6
 ·omega
 rw[RH E] at h;by_cases h3:7<=z/\z<=14
 ·omega
 rw[RH h3] at h;by_cases G:z=15\/z=16
 ·omega
 rw[RH G] at h;by_cases I:z=17\/z=18
 ·omega
 rw[RH I] at h;exact absurd rfl h
structure sR (b:List UInt8) (x:ey):Prop where
 here:x=pR b x.pl
 size:cE x.op≠0
 fits:x.pl+cE x.op<=b.length
 bound:cE x.op=2->(cy b (x.pl+1):Int)<=dC x.op (cy b 2)
def oI (a e:Nat):List ey->Prop
 |[]=>a=e
 |x::r=>x.pl=a/\oI (a+cE x.op) e r
theorem wU {b:LB} (f):∀{a ins},pj f b a=some ins->a<=b.length->(∀x∈ins,sR b x)/\oI a b.length ins:=by
 induction f with
 |zero=>intro a ins h;simp[pj] at h
 |succ f ih=>
  intro a ins h O;rw[pj] at h;by_cases G:b.length<=a
  ·rw[RK G] at h;simp at h;subst h;exact⟨by simp,by unfold oI;omega⟩
  rw[RH G] at h;by_cases z:cE (cy b a)≠0/\a+cE (cy b a)<=b.length/\(cE (cy b a)=2->(cy b (a+1))<=dC (cy b a) (cy b 2))
  ·rw[RK z] at h;cases D:pj f b (a+cE (cy b a)) with
   |none=>rw[D] at h;simp at h
   |some r=>
    rw[D] at h;simp at h;subst h;obtain⟨I,J⟩:=ih D z.2.1;refine⟨λx E=>?_,rfl,J⟩
    rcases Sm.1 E with rfl|E
    ·exact⟨rfl,z.1,z.2.1,z.2.2⟩
    exact I x E
  rw[RH z] at h;simp at h
theorem nW {e:Nat}:∀{ins a},(∀x∈ins,cE x.op≠0)->oI a e ins->a+ins.length<=e/\ ∀i,i<ins.length->a<=(ins.getD i cI).pl/\(ins.getD i cI).pl<e
 |[],a,_,h=>⟨by unfold oI at h;simp;omega,λi z=>by simp at z⟩
 |x::r,a,D,h=>by
  obtain⟨J,E⟩:=h;have O:=D x (by simp)
  obtain⟨R,G⟩:=nW (λy I=>D y (by simp[I])) E
  refine⟨by simp;omega,λi z=>?_⟩
  cases i with
  |zero=>simp only[SU];omega
  |succ i=>rw[R9];have:=G i (by simpa using z);omega
theorem mL {e:Nat}:∀{ins a},(∀x∈ins,cE x.op≠0)->oI a e ins-> ∀i j,i<j->j<ins.length->(ins.getD i cI).pl+cE (ins.getD i cI).op<=(ins.getD j cI).pl
 |[],a,_,h=>λi j _ z=>by simp at z
 |x::r,a,G,h=>λi j J z=>by
  obtain⟨O,D⟩:=h;obtain⟨j,rfl⟩:∃k,j=k+1:=⟨j - 1,by omega⟩
  rw[R9];have E:∀y∈r,cE y.op≠0:=λy I=>G y (by simp[I])
  cases i with
  |zero=>simp only[SU];have:=(nW E D).2 j (by simpa using z);omega
  |succ i=>rw[R9];exact mL E D i j (by omega) (by simpa using z)
structure fz (b:List UInt8) (ins:List ey):Prop where
 each:∀x∈ins,sR b x
 order:oI 3 b.length ins
theorem iA {ins:List ey} {i:Nat} (h:i<ins.length):ins.getD i cI∈ins:=by rw[RG,RI h];exact R4 h
theorem wV {b:LB} {ins} (h:fz b ins) (I:i<ins.length) (z:fS ins (ins.getD i cI)=some j):i<j/\j<ins.length/\(ins.getD j cI).pl=(ins.getD i cI).pl+3+(ins.getD i cI).n.toNat:=by
 unfold fS at z;rw[TO] at z;obtain⟨D,J,_⟩:=z;have e:ins.getD j cI=ins[j]:=by rw[RG,RI D];rfl
 have h3:(ins.getD j cI).pl=(ins.getD i cI).pl+3+(ins.getD i cI).n.toNat:=by rw[e];simpa using J
 refine⟨?_,D,h3⟩;by_cases E:i<j
 ·exact E
 exfalso;by_cases G:j=i
 ·subst G;omega
 have:=mL (λx O=>(h.each x O).size) h.order j i (by omega) I
 omega
def LI (a b:List Nat):Prop:= ∀c,a.getD c 0≠0->a.getD c 0=b.getD c 0
theorem LI.refl (a:List Nat):LI a a:=λ_ _=>rfl
theorem LI.trans {a b c:List Nat} (z:LI a b) (D:LI b c):LI a c:=λi h=>by
 have e:=z i h;rw[e] at h⊢;exact D i h
theorem vI (a b:List Nat) (c:Nat):(hU a b).getD c 0=if c<a.length/\c<b.length then(if a.getD c 0=b.getD c 0 then a.getD c 0 else 0) else 0:=by
 unfold hU;by_cases h:c<a.length/\c<b.length
 ·rw[RK h];simp[RG,List.getElem?_zipWith,RI h.1,RI h.2]
 rw[RH h,RG,R2 (by simp;omega)];rfl
theorem IC (a b:List Nat):LI (hU a b) a:=λc h=>by
 rw[vI] at h⊢;split at h
 ·rename_i z;rw[RK z];split at h
  ·rename_i D;rw[RK D]
  exact absurd rfl h
 exact absurd rfl h
theorem EW (a b:List Nat):LI (hU a b) b:=λc h=>by
 rw[vI] at h⊢;split at h
 ·rename_i D;rw[RK D];split at h
  ·rename_i z;rw[RK z];exact z
  exact absurd rfl h
 exact absurd rfl h
def kA (a b:Option Kn):Prop:= ∀k,a=some k-> ∃D,b=some D/\D.st=k.st/\LI D.cl k.cl
theorem kA.refl (a:Option Kn):kA a a:=λk h=>⟨k,h,rfl,LI.refl _⟩
theorem kA.trans {a b c:Option Kn} (z:kA a b) (D:kA b c):kA a c:=λk h=>by
 obtain⟨E,G,I,J⟩:=z k h;obtain⟨O,R,U,V⟩:=D E G;exact⟨O,R,U.trans I,V.trans J⟩
theorem getD_set_ne {α:Type} {l:List α} {v d:α} (h:i≠j):(l.set i v).getD j d=l.getD j d:=by
 simp[RG,UI h]
theorem cT {α:Type} {l:List α} {v d:α} (h:i<l.length):(l.set i v).getD i d=v:=by
 simp[RG,h]
theorem Cs {k:Kn}:∀{ts come z},dU come k ts=some z->(∀j,some j∈ts->j<come.length)->
 z.length=come.length/\(∀t∈ts,∃j,t=some j)/\(∀j,some j∈ts->kA (some k) (z.getD j none))/\(∀j,some j∉ts->z.getD j none=come.getD j none)/\(∀j,kA (come.getD j none) (z.getD j none))
 |[],come,z,h,_=>by
  simp[dU] at h;subst h;exact⟨rfl,by simp,by simp,λ_ _=>rfl,λ_=>kA.refl _⟩
 |none::r,come,z,h,_=>by simp[dU] at h
 |some j::r,come,z,h,J=>by
  have U:=J j (by simp)
  rw[dU] at h;have step:∀n,kA (come.getD j none) (some n)->kA (some k) (some n)->dU (come.set j (some n)) k r=some z->
   z.length=come.length/\(∀t∈some j::r,∃j,t=some j)/\(∀i,some i∈some j::r->kA (some k) (z.getD i none))/\(∀i,some i∉some j::r->z.getD i none=come.getD i none)/\(∀i,kA (come.getD i none) (z.getD i none)):=by
   intro n V Y h3;obtain⟨a1,a2,a3,a4,a5⟩:=Cs h3 (λi D=>by simpa using J i (by simp[D]))
   refine⟨by simpa using a1,?_,?_,?_,?_⟩
   ·intro t O;rcases Sm.1 O with rfl|O
    ·exact⟨j,rfl⟩
    exact a2 t O
   ·intro i D;by_cases E:some i∈r
    ·exact a3 i E
    have e:i=j:=by
     rcases Sm.1 D with h|h
     ·simpa using h
     exact absurd h E
    subst e;rw[a4 i E,cT U];exact Y
   ·intro i D;have Z:some i∉r:=λh=>D (by simp[h])
    have h5:j≠i:=λh=>D (by simp[h])
    rw[a4 i Z,getD_set_ne h5]
   intro i;refine kA.trans ?_ (a5 i);by_cases e:j=i
   ·subst e;rw[cT U];exact V
   rw[getD_set_ne e];exact kA.refl _
  cases I:come.getD j none with
  |none=>
   rw[I] at h;exact step k (by rw[I];intro k h;simp at h) (kA.refl _) h
  |some a=>
   rw[I] at h;simp only[] at h;by_cases R:a.st=k.st
   ·rw[RK R] at h;refine step ⟨a.st,hU a.cl k.cl⟩ ?_ ?_ h
    ·rw[I];intro q G;simp at G;subst G;exact⟨_,rfl,rfl,IC _ _⟩
    intro q G;simp at G;subst G;exact⟨_,rfl,R,EW _ _⟩
   rw[RH R] at h;simp at h
def Good (ins:List ey) (z R:Nat) (C:Nat->Option Kn):Prop:=
 ∀i,R<=i->i<ins.length-> ∀k,C i=some k-> ∃D,dZ (ins.getD i cI).op (ins.getD i cI).n.toNat k=some D/\D.st.length<=z/\
  ∀t∈fb ins i (ins.getD i cI),∃j,t=some j/\i<j/\j<ins.length/\kA (some D) (C j)
theorem uh {b:LB} {ins} (h:fz b ins) (G:i<ins.length) (z:some j∈fb ins i (ins.getD i cI)):i<j/\j<ins.length:=by
 have D:some j=(if i+1<ins.length then some (i+1) else none)->i<j/\j<ins.length:=λe=>by
  split at e
  ·simp at e;omega
  simp at e
 have E:some j=fS ins (ins.getD i cI)->i<j/\j<ins.length:=λe=>by
  have:=wV h G e.symm;omega
 unfold fb at z;split at z
 ·simp only[Sm,SJ,T2] at z;rcases z with z|z
  ·exact D z
  exact E z
 split at z
 ·simp only[Sm,SJ,T2] at z;exact E z
 split at z
 ·simp at z
 simp only[Sm,SJ,T2] at z;exact D z
theorem ID {b:LB} {ins:List ey} (h:fz b ins) (D):∀m i come,ins.length - i=m->come.length=ins.length->iZ ins D (ins.drop i) i come=true->
 ∃C,(∀j,j<=i->C j=come.getD j none)/\(∀j,kA (come.getD j none) (C j))/\Good ins D i C:=by
 intro m;induction m with
 |zero=>
  intro i come Z O _;exact⟨λj=>come.getD j none,λ_ _=>rfl,λ_=>kA.refl _,λj h1 R=>by omega⟩
 |succ m ih=>
  intro i come Z O z;have I:i<ins.length:=by omega
  have hd:ins.drop i=ins.getD i cI::ins.drop (i+1):=by rw[R5 I,RG,RI I];rfl
  rw[hd,iZ] at z;cases U:come.getD i none with
  |none=>
   rw[U] at z;obtain⟨C,c1,c2,c3⟩:=ih (i+1) come (by omega) O z
   refine⟨C,λj J=>c1 j (by omega),c2,λj h1 R k E=>?_⟩
   by_cases e:j=i
   ·subst e;rw[c1 j (by omega),U] at E;simp at E
   exact c3 j (by omega) R k E
  |some k=>
   rw[U] at z;simp only[] at z;cases E:dZ (ins.getD i cI).op (ins.getD i cI).n.toNat k with
   |none=>rw[E] at z;simp at z
   |some k'=>
    rw[E] at z;simp only[] at z;by_cases Y:D<k'.st.length
    ·rw[RK Y] at z;simp at z
    rw[RH Y] at z;cases hb:dU come k' (fb ins i (ins.getD i cI)) with
    |none=>rw[hb] at z;simp at z
    |some G=>
     rw[hb] at z;simp only[] at z;obtain⟨a1,a2,a3,a4,a5⟩:=Cs hb (λj J=>by rw[O];exact(uh h I J).2)
     obtain⟨C,c1,c2,c3⟩:=ih (i+1) G (by omega) (by rw[a1];exact O) z
     have keep:∀j,j<=i->G.getD j none=come.getD j none:=λj J=>a4 j λZ=>by have:=(uh h I Z).1;omega
     refine⟨C,λj J=>(c1 j (by omega)).trans (keep j J),λj=>(a5 j).trans (c2 j),λj h1 R q V=>?_⟩
     by_cases e:j=i
     ·subst e;rw[c1 j (by omega),keep j (by omega),U] at V
      simp at V;subst V;refine⟨k',E,by omega,λt ht=>?_⟩
      obtain⟨j2,rfl⟩:=a2 t ht;obtain⟨f1,f2⟩:=uh h I ht;exact⟨j2,rfl,f1,f2,(a3 j2 ht).trans (c2 j2)⟩
     exact c3 j (by omega) R q V
def pT (t:Nat) (v:Int):Prop:=dL v/\(t=2->v=0\/v=1)
theorem rN (t:Nat) (b:Bool):pT t (cR b):=by
 unfold cR pT dL;cases b<;>simp
def jT:List Nat->List Int->Prop
 |[],[]=>True
 |t::ts,v::vs=>pT t v/\jT ts vs
 |_,_=>False
theorem jT.len:∀{ts:List Nat} {vs:List Int},jT ts vs->vs.length=ts.length
 |[],[],_=>rfl
 |_::_,_::_,h=>by simp[jT.len h.2]
 |[],_::_,h=>h.elim
 |_::_,[],h=>h.elim
theorem jT.cons {t ts vs} (h:jT (t::ts) vs):∃v r,vs=v::r/\pT t v/\jT ts r:=by
 cases vs with
 |nil=>exact h.elim
 |cons v r=>exact⟨v,r,rfl,h.1,h.2⟩
def Az (ts:List Nat) (cl:List Int):Prop:= ∀c,ts.getD c 0≠0->pT (ts.getD c 0) (cl.getD c 0)
theorem Az.less (h:Az b cl) (D:LI a b):Az a cl:=λc z=>by
 have e:=D c z;rw[e] at z⊢;exact h c z
def dI (fl:List Int):Prop:= ∀n,n<=8->pT (jw n) (fl.getD n 0)
structure LJ (cells:Nat) (x:ey):Prop where
 op:1<=x.op/\x.op<=18
 int:x.op=1->dL x.n
 two:cE x.op=2->0<=x.n/\x.n<=dC x.op cells/\x.n<=255
 jump:cE x.op=3->0<=x.n/\x.n<=65535
theorem kD {b:LB} (h:sR b x):LJ (cy b 2) x:=by
 have D:x.n=mK b x.op x.pl:=by have:=h.here;rw[this];rfl
 have E:cE x.op=2->x.n=(cy b (x.pl+1)):=λz=>by
  rw[D];unfold mK;rw[RH (by intro e;rw[e] at z;simp[cE] at z),z]
  simp[eO]
 refine⟨Ay h.size,λG=>?_,λz=>?_,λz=>?_⟩
 ·rw[D];unfold mK;rw[RK G];exact IB (by have:=pS b (x.pl+1) 8;omega)
 ·have:=h.bound z;have:=fq b (x.pl+1);rw[E z];omega
 rw[D];unfold mK;rw[RH (by intro e;rw[e] at z;simp[cE] at z),z]
 have:=pS b (x.pl+1) 2;simp only[Nat.reduceSub];omega
theorem LK (z t:Nat) (a b:Int) (h:z=7\/z=8->t≠2):pT t (lz z a b):=by
 unfold lz;by_cases D:z=7
 ·rw[RK D];exact⟨nN _,λe=>absurd e (h (.inl D))⟩
 rw[RH D];by_cases E:z=8
 ·rw[RK E];exact⟨nN _,λe=>absurd e (h (.inr E))⟩
 rw[RH E];(repeat' split)<;>exact rN _ _
structure vp (k:Kn) (cells) (st cl):Prop where
 typ:jT k.st st
 cel:Az k.cl cl
 len:cl.length=cells
theorem kF {z more:List Nat} {k D:Kn} (h:kV z more k=some D):k.st=z++k.st.drop z.length/\D=⟨more++k.st.drop z.length,k.cl⟩:=by
 unfold kV at h;by_cases e:k.st.take z.length=z
 ·rw[RK e] at h;simp at h;refine⟨?_,h.symm⟩
  conv=>lhs;rw[<-TP z.length k.st,e]
 rw[RH e] at h;simp at h
theorem ui {cells} (hx:LJ cells x) (hF:dI fl) (h:vp k cells st cl) (z:dZ x.op x.n.toNat k=some k') (ah: ¬(x.op=17\/x.op=18)):
 ∃st' cl' j,gj fl x st cl=some (st',cl',j)/\vp k' cells st' cl'/\(j=true->x.op=15\/x.op=16)/\(x.op=16->j=true):=by
 obtain⟨Y,Z⟩:=k;obtain⟨D,E,G⟩:=h;simp only[] at D E;have ai:=hx.op;unfold dZ at z;unfold gj;simp only[] at z
 by_cases h1:x.op=1
 ·rw[RK h1] at z;simp at z;subst z
  rw[RK (.inl h1)];exact⟨_,_,_,rfl,⟨⟨⟨hx.int h1,λe=>by simp at e⟩,D⟩,E,G⟩,by simp,by omega⟩
 rw[RH h1] at z
 by_cases h2:x.op=2
 ·rw[RK h2] at z;simp at z;subst z
  rw[RK (.inr (.inl h2))];have hb:=hx.two (by rw[h2];rfl)
  have e:dC x.op cells=1:=by unfold dC;rw[RK h2]
  exact⟨_,_,_,rfl,⟨⟨⟨by unfold dL;omega,λ_=>by omega⟩,D⟩,E,G⟩,by simp,by omega⟩
 rw[RH h2] at z
 by_cases h3:x.op=3
 ·rw[RK h3] at z;simp at z;subst z
  rw[RK (.inr (.inr h3))];have hb:=hx.two (by rw[h3];rfl)
  exact⟨_,_,_,rfl,⟨⟨⟨by unfold dL;omega,λe=>by simp at e⟩,D⟩,E,G⟩,by simp,by omega⟩
 rw[RH h3] at z;rw[RH (by omega)]
 by_cases h4:x.op=4
 ·rw[RK h4] at z;simp at z;subst z
  rw[RK h4];have hb:=hx.two (by rw[h4];rfl)
  have e:dC x.op cells=8:=by rw[h4];rfl
  exact⟨_,_,_,rfl,⟨⟨hF _ (by omega),D⟩,E,G⟩,by simp,by omega⟩
 rw[RH h4] at z⊢
 by_cases h5:x.op=5
 ·rw[RK h5] at z
  rw[RK h5];have hb:=hx.two (by rw[h5];rfl)
  have e:dC x.op cells=cells - 1:=by rw[h5];rfl
  cases Y with
  |nil=>simp at z
  |cons t r=>
   simp at z;subst z
   obtain⟨v,q,rfl,hv,O⟩:=D.cons;refine⟨_,_,_,rfl,⟨O,λc U=>?_,by simpa using G⟩,by simp,by omega⟩
   simp only[] at U⊢
   by_cases he:x.n.toNat=c
   ·subst he
    by_cases ab:x.n.toNat<Z.length
    ·rw[cT ab,cT (by omega)];exact hv
    ·exfalso;apply U
     rw[RG,R2 (by simpa using ab)];rfl
   ·rw[getD_set_ne he] at U⊢
    rw[getD_set_ne he];exact E c U
 rw[RH h5] at z⊢
 by_cases h6:x.op=6
 ·rw[RK h6] at z
  rw[RK h6]
  by_cases hz:Z.getD x.n.toNat 0=0
  ·rw[RK hz] at z;simp at z
  ·rw[RH hz] at z;simp only[R6] at z;subst z
   exact⟨_,_,_,rfl,⟨⟨E _ hz,D⟩,E,G⟩,by simp,by omega⟩
 rw[RH h6] at z⊢;have two:∀{a b c:Nat} {r:List Nat},Y=a::b::r->k'=⟨c::r,Z⟩->(x.op=7\/x.op=8->c≠2)-> ∃st' cl' j,(match st with
  |b::a::r=>some (lz x.op a b::r,cl,false)
  |_=>none)=some (st',cl',j)/\vp k' cells st' cl'/\(j=true->x.op=15\/x.op=16):=by
  intro a b c r I J U
  subst I;subst J
  obtain⟨v,q,rfl,hv,O⟩:=D.cons;obtain⟨u,q,rfl,hu,O⟩:=O.cons;exact⟨_,_,_,rfl,⟨⟨LK _ _ _ _ U,O⟩,E,G⟩,by simp⟩
 have R:∀{a b c:Nat} {r:List Nat},x.op≠12->x.op≠15->x.op≠16->Y=a::b::r->k'=⟨c::r,Z⟩->(x.op=7\/x.op=8->c≠2)-> ∃st' cl' j,(if x.op=12 then(match st with
  |[]=>none
  |v::r=>some ((1 - v)::r,cl,false))
 else if x.op=15 then(match st with
  |[]=>none
  |v::r=>some (r,cl,v==0))
 else if x.op=16 then some (st,cl,true)
 else(match st with
  |b::a::r=>some (lz x.op a b::r,cl,false)
  |_=>none))=some (st',cl',j)/\vp k' cells st' cl'/\(j=true->x.op=15\/x.op=16)/\(x.op=16->j=true):=by
  intro a b c r n1 n2 n3 I J U;rw[RH n1,RH n2,RH n3];obtain⟨s',c',j,q1,q2,q3⟩:=two I J U;exact⟨s',c',j,q1,q2,q3,λe=>absurd e n3⟩
 by_cases h7:x.op=7\/x.op=8
 ·rw[RK h7] at z
  obtain⟨I,J⟩:=kF z;exact R (by omega) (by omega) (by omega) I J (λ_=>by decide)
 rw[RH h7] at z
 by_cases h9:x.op=9
 ·rw[RK h9] at z
  match Y,z with
  |[],z=>simp at z
  |[_],z=>simp at z
  |a::b::r,z=>
   simp only[] at z
   by_cases he:a=b
   ·rw[RK he] at z;simp at z
    exact R (by omega) (by omega) (by omega) rfl z.symm (λe=>absurd e h7)
   ·rw[RH he] at z;simp at z
 rw[RH h9] at z
 by_cases ac:x.op=10\/x.op=11
 ·rw[RK ac] at z
  obtain⟨I,J⟩:=kF z;exact R (by omega) (by omega) (by omega) I J (λe=>absurd e h7)
 rw[RH ac] at z
 by_cases aa:x.op=12
 ·rw[RK aa] at z
  rw[RK aa];obtain⟨I,J⟩:=kF z;simp only[] at I J;rw[I] at D;subst J;obtain⟨v,q,rfl,hv,O⟩:=jT.cons D;have:=hv.2 rfl;refine⟨_,_,_,rfl,⟨⟨⟨by unfold dL;omega,λ_=>by omega⟩,O⟩,E,G⟩,by simp,by omega⟩
 rw[RH aa] at z
 by_cases ad:x.op=13\/x.op=14
 ·rw[RK ad] at z
  obtain⟨I,J⟩:=kF z;exact R (by omega) (by omega) (by omega) I J (λe=>absurd e h7)
 rw[RH ad] at z;rw[RH aa]
 by_cases V:x.op=15
 ·rw[RK V] at z
  rw[RK V];obtain⟨I,J⟩:=kF z;simp only[] at I J;rw[I] at D;subst J;obtain⟨v,q,rfl,hv,O⟩:=jT.cons D;exact⟨_,_,_,rfl,⟨O,E,G⟩,λ_=> .inl V,by omega⟩
 rw[RH V] at z;simp at z;subst z
 rw[RH V,RK (by omega)]
 exact⟨_,_,_,rfl,⟨D,E,G⟩,λ_=> .inr (by omega),λ_=>rfl⟩
theorem AA {ins} (I:j=true->x.op=15\/x.op=16) (E:x.op=16->j=true) (G: ¬(x.op=17\/x.op=18)):(if j then fS ins x else(if i+1<ins.length then some (i+1) else none))∈fb ins i x:=by
 unfold fb;cases j with
 |true=>
  rcases I rfl with h|h
  ·rw[RK h];simp
  rw[RH (by omega),RK h];simp
 |false=>
  have J:x.op≠16:=λe=>by simpa using E e
  by_cases h:x.op=15
  ·rw[RK h];simp
  rw[RH h,RH J,RH G];simp
theorem Pp {b:LB} {ins cells} (h:fz b ins) (hc:cy b 2=cells) (hF:dI fl) (hG:Good ins E 0 C):∀m i st cl n k,ins.length - i<=m->i<ins.length->C i=some k->vp k cells st cl->
 ∃a r s,nV ins fl m i st cl n=some (a,r,s)/\n<s/\s<=n+(ins.length - i)/\r<=255:=by
 intro m;induction m with
 |zero=>intro i st cl n k h1 G;omega
 |succ m ih=>
  intro i st cl n k hm I hk R;rw[nV,RK I];have J:=kD (h.each _ (iA I));rw[hc] at J;by_cases z:(ins.getD i cI).op=17\/(ins.getD i cI).op=18
  ·rw[RK z];have G:=J.two (by rcases z with e|e<;>rw[e]<;>rfl)
   exact⟨_,_,_,rfl,by omega,by omega,by omega⟩
  rw[RH z];obtain⟨k',hd,aa,hl⟩:=hG i (by omega) I k hk
  obtain⟨st',cl',j,hs,D,hj,U⟩:=ui J hF R hd z;rw[hs];have V:=AA (ins:=ins) (i:=i) hj U z;obtain⟨q,e,h1,G,h3⟩:=hl _ V;obtain⟨Y,e2,e3,e4⟩:=h3 k' rfl;have O:vp Y cells st' cl':=⟨by rw[e3];exact D.typ,D.cel.less e4,D.len⟩
  obtain⟨a,r,s,Z,i2,i3,i4⟩:=ih q st' cl' (n+1) Y (by omega) G e2 O
  cases j with
  |true=>
   have e:fS ins (ins.getD i cI)=some q:=e;simp only[];rw[e];exact⟨a,r,s,Z,by omega,by omega,i4⟩
  |false=>
   have e:(if i+1<ins.length then some (i+1) else none)=some q:=e;split at e
   ·simp at e;subst e;exact⟨a,r,s,Z,by omega,by omega,i4⟩
   simp at e
theorem qv (cells n:Nat) (h:0<n):(iG cells n).length=n:=by simp[iG];omega
theorem mM {b:LB} {ins:List ey} (h:fE b=some ins):4<=b.length/\b.length<=4000/\fz b ins/\0<ins.length/\ins.length<=b.length/\cy b 1<=24/\ ∃C:Nat->Option Kn,C 0=some ⟨[],List.replicate (cy b 2) 0⟩/\Good ins (cy b 1) 0 C:=by
 unfold fE at h;by_cases I:b.length<4\/4000<b.length\/cy b 0≠71\/24<cy b 1
 ·rw[RK I] at h;simp at h
 rw[RH I] at h;cases D:pj (b.length+1) b 3 with
 |none=>rw[D] at h;simp at h
 |some q=>
  rw[D] at h;simp only[] at h;by_cases E:iZ q (cy b 1) q 0 (iG (cy b 2) q.length)=true
  ·rw[RK E] at h;simp at h;subst h;obtain⟨J,G⟩:=wU _ D (by omega)
   have O:fz b q:=⟨J,G⟩;have ab:=(nW (λx Z=>(J x Z).size) G).1
   have z:0<q.length:=by
    cases q with
    |nil=>unfold oI at G;omega
    |cons x r=>simp
   obtain⟨C,c1,c2,c3⟩:=ID O (cy b 1) _ 0 (iG (cy b 2) q.length) rfl (qv _ _ z) E;exact⟨by omega,by omega,O,z,by omega,by omega,C,(c1 0 (RL _)).trans rfl,c3⟩
  rw[RH E] at h;simp at h
def jx (b:List UInt8) (ins:List ey) (fl:List Int):Option (Bool×Nat×Nat):=nV ins fl ins.length 0 [] (List.replicate (cy b 2) 0) 0
theorem Ct {b:LB} {ins} (h:fE b=some ins) (z:dI fl):∃a r s,jx b ins fl=some (a,r,s)/\0<s/\s<=b.length/\r<=255:=by
 obtain⟨R,U,h3,D,V,Y,C,E,G⟩:=mM h;obtain⟨a,r,s,e,I,Z,J⟩:=Pp h3 rfl z G ins.length 0 [] (List.replicate (cy b 2) 0) 0 _ (by omega) D E ⟨trivial,λc O=>by
  exfalso;apply O;simp[RG,Sn];split<;>rfl,by simp⟩
 exact⟨a,r,s,e,I,by omega,J⟩
theorem Cu {b c:List UInt8} {i:Nat} (h:i<b.length):cy (b++c) i=cy b i:=by
 unfold cy;rw[RG,RG,Si h]
structure Tr where
 k:Nat
 n:Int
 l:Int
 kids:List Tr
def fL:Tr:=⟨0,0,0,[]⟩
def Tr.kid (t:Tr) (j:Nat):Tr:=t.kids.getD j fL
def dy (k:Nat):Prop:=k=1\/k=2\/(20<=k/\k<=35)
def fh (k:Nat):Prop:=k=6\/k=7\/k=8\/k=9\/k=10\/k=17\/k=18
def Pr (t:Tr):Prop:=(dy t.k/\t.kids=[]/\(t.k=1->dL t.n)/\(t.k=2->0<=t.l))\/(t.k=19/\ ∃a,t.kids=[a])\/(t.k=14/\ ∃a b c,t.kids=[a,b,c])\/(fh t.k/\ ∃a b,t.kids=[a,b])
def hY:Nat->Tr->Prop
 |0,_=>False
 |d+1,t=>Pr t/\ ∀c∈t.kids,hY d c
def ee (lt:List Nat) (t:Tr):Nat:=if t.k=1 then 1 else if t.k=2 then lt.getD t.l.toNat 0 else if 27<=t.k then jw (t.k - 27) else if 22<=t.k then 3 else 2
def ef (k:Nat):List Nat->Nat
 |[a]=>if a=2 then 2 else 0
 |[a,b]=>if k=6\/k=7 then(if a=1/\b=1 then 1 else 0) else if k=9\/k=10 then(if a=1/\b=1 then 2 else 0) else if k=8 then(if a=b/\a≠0 then 2 else 0) else(if a=2/\b=2 then 2 else 0)
 |[a,b,c]=>if a=2/\b=c then b else 0
 |_=>0
def cP (lt:List Nat):Nat->Tr->Nat
 |0,_=>0
 |d+1,t=>if t.kids=[] then ee lt t else ef t.k (t.kids.map (cP lt d))
def kP (fl:List Int) (k:Nat):Int:=if 27<=k then fl.getD (k - 27) 0 else if 22<=k then((k - 22:Nat):Int) else cR (decide (k=20))
def gS (lv fl:List Int) (t:Tr):Int:=if t.k=1 then t.n else if t.k=2 then lv.getD t.l.toNat 0 else kP fl t.k
def sS (k:Nat) (a b:Int):Int:=
 if k=6 then fy (a+b) else if k=7 then fy (a - b) else if k=8 then cR (a==b) else if k=10 then cR (decide (a<b))
 else if k=9 then cR (decide (a<=b)) else if k=18 then cR (a==1&&b==1) else cR (a==1||b==1)
def Cv (k:Nat) (w:Int):List Int->Int
 |[]=>w
 |[a]=>1 - a
 |[a,b]=>sS k a b
 |a::b::c::_=>if a=1 then b else c
def eP (lv fl:List Int):Nat->Tr->Int
 |0,_=>0
 |d+1,t=>Cv t.k (gS lv fl t) (t.kids.map (eP lv fl d))
def eR:Nat->Tr->Nat
 |0,_=>0
 |d+1,t=>1+(t.kids.map (eR d)).sum
theorem hY.up {d:Nat}:∀{t},hY d t-> ∀{e},d<=e->hY e t:=by
 induction d with
 |zero=>intro t h;exact h.elim
 |succ d ih=>
  intro t h e D;obtain⟨e,rfl⟩:∃q,e=q+1:=⟨e - 1,by omega⟩
  exact⟨h.1,λc z=>ih (h.2 c z) (by omega)⟩
theorem pU:∀{t},hY d t-> ∀{e},d<=e->eP lv fl e t=eP lv fl d t:=by
 induction d with
 |zero=>intro t h;exact h.elim
 |succ d ih=>
  intro t h e D;obtain⟨e,rfl⟩:∃q,e=q+1:=⟨e - 1,by omega⟩
  rw[eP,eP,Sh λc z=>ih (h.2 c z) (by omega)]
theorem nu {lt}:∀{t},hY d t-> ∀{e},d<=e->cP lt e t=cP lt d t:=by
 induction d with
 |zero=>intro t h;exact h.elim
 |succ d ih=>
  intro t h e D;obtain⟨e,rfl⟩:∃q,e=q+1:=⟨e - 1,by omega⟩
  rw[cP,cP,Sh λc z=>ih (h.2 c z) (by omega)]
theorem qw {d:Nat}:∀{t},hY d t-> ∀{e},d<=e->eR e t=eR d t:=by
 induction d with
 |zero=>intro t h;exact h.elim
 |succ d ih=>
  intro t h e D;obtain⟨e,rfl⟩:∃q,e=q+1:=⟨e - 1,by omega⟩
  rw[eR,eR,Sh λc z=>ih (h.2 c z) (by omega)]
theorem LL (k t:Nat) (a b:Int) (h:k=6\/k=7->t≠2):pT t (sS k a b):=by
 unfold sS;by_cases z:k=6
 ·rw[RK z];exact⟨nN _,λe=>absurd e (h (.inl z))⟩
 rw[RH z];by_cases D:k=7
 ·rw[RK D];exact⟨nN _,λe=>absurd e (h (.inr D))⟩
 rw[RH D];(repeat' split)<;>exact rN _ _
def kG (lt:List Nat) (lv:List Int):Prop:= ∀i,lt.getD i 0≠0->pT (lt.getD i 0) (lv.getD i 0)
theorem IE {lt} (I:kG lt lv) (J:dI fl) (O:dy t.k) (R:t.k=1->dL t.n) (z:ee lt t≠0):pT (ee lt t) (gS lv fl t):=by
 unfold ee gS kP at*;by_cases D:t.k=1
 ·rw[RK D,RK D];exact⟨R D,λe=>by simp at e⟩
 rw[RH D] at z⊢;rw[RH D];by_cases E:t.k=2
 ·rw[RK E] at z⊢;rw[RK E];exact I _ z
 rw[RH E,RH E];by_cases h3:27<=t.k
 ·rw[RK h3,RK h3];unfold dy at O;exact J _ (by omega)
 rw[RH h3,RH h3];by_cases G:22<=t.k
 ·rw[RK G,RK G];exact⟨by unfold dL;omega,λe=>by simp at e⟩
 rw[RH G,RH G];exact rN _ _
theorem kH {lt} (U:kG lt lv) (V:dI fl):∀{t},hY d t->cP lt d t≠0->pT (cP lt d t) (eP lv fl d t):=by
 induction d with
 |zero=>intro t h;exact h.elim
 |succ d ih=>
  intro t h z;rw[cP] at z⊢;rw[eP];rcases h.1 with⟨G,D,Y,_⟩|⟨G,a,D⟩|⟨G,a,b,c,D⟩|⟨G,a,b,D⟩
  ·rw[RK D] at z⊢;rw[D];exact IE U V G Y z
  ·rw[D] at z⊢;rw[RH (by simp)] at z⊢
   simp only[Sa,SA,ef,Cv] at z⊢;split at z
   ·rename_i E;rw[RK E];have:=(ih (h.2 a (by rw[D];simp)) (by omega)).2 E
    exact⟨by unfold dL;omega,λ_=>by omega⟩
   exact absurd rfl z
  ·rw[D] at z⊢;rw[RH (by simp)] at z⊢
   simp only[Sa,SA,ef,Cv] at z⊢;split at z
   ·rename_i E;rw[RK E];split
    ·exact ih (h.2 b (by rw[D];simp)) z
    rw[E.2] at z⊢;exact ih (h.2 c (by rw[D];simp)) z
   exact absurd rfl z
  rw[D] at z⊢;rw[RH (by simp)] at z⊢
  simp only[Sa,SA,ef,Cv] at z⊢;refine LL _ _ _ _ λZ=>?_
  rw[RK Z];split<;>decide
structure mY where
 inl:Bool
 fol:Bool
 pru:Bool
 jmp:Bool
def fT:Nat->Tr->Bool
 |0,_=>true
 |d+1,t=>decide (27<=t.k/\t.k<=35)||decide (t.k=2)||t.kids.any (fT d)
def oJ (lets:List Tr) (c:Tr):Tr:=if c.k=2/\(lets.getD c.l.toNat fL).kids=[] then lets.getD c.l.toNat fL else c
def qx (c:Tr):Tr:=if(c.kid 0).k=20 then c.kid 1 else if(c.kid 0).k=21 then c.kid 2 else c
def jF:List Int:=[0,0,0,0,0,0,0,0,0]
def mN (d:Nat) (c:Tr):Tr:=
 if c.k=14 then qx c else if fT d c=true\/c.kids=[] then c
 else if c.k=6\/c.k=7 then⟨1,eP [] jF d c,0,[]⟩ else if eP [] jF d c=1 then⟨20,0,0,[]⟩ else⟨21,0,0,[]⟩
def jL (c:Tr) (s i:Nat):Tr:=if(c.kid 0).k=s\/(c.kid 1).k=i then c.kid 0 else if(c.kid 1).k=s\/(c.kid 0).k=i then c.kid 1 else c
def iU (c:Tr):Tr:=
 if c.k=19 then(if(c.kid 0).k=19 then(c.kid 0).kid 0 else c) else if c.k=18 then jL c 21 20 else if c.k=17 then jL c 20 21 else c
def OS (p:mY) (lets:List Tr) (d:Nat) (c:Tr):Tr:=
 let c:=if p.inl then oJ lets c else c
 let c:=if p.fol then mN d c else c
 if p.pru then iU c else c
def kW (p:mY) (lets:List Tr):Nat->Tr->Tr
 |0,t=>t
 |d+1,t=>OS p lets (d+1) ⟨t.k,t.n,t.l,t.kids.map (kW p lets d)⟩
structure wW (p:mY) (lets:List Tr) (lt lt':List Nat) (lv lv' fl:List Int):Prop where
 one:∀i,lt.getD i 0≠0->p.inl=true->(lets.getD i fL).kids=[]->hY 1 (lets.getD i fL)/\cP lt' 1 (lets.getD i fL)=lt.getD i 0/\eP lv' fl 1 (lets.getD i fL)=lv.getD i 0
 same:∀i,lt.getD i 0≠0-> ¬(p.inl=true/\(lets.getD i fL).kids=[])->lt'.getD i 0=lt.getD i 0/\lv'.getD i 0=lv.getD i 0
structure Alike (lt lt') (lv lv' fl) (d) (t t'):Prop where
 wf:hY d t'
 ty:cP lt' d t'=cP lt d t
 ev:eP lv' fl d t'=eP lv fl d t
 cnt:eR d t'<=eR d t
theorem oK (h:hY d t):1<=eR d t:=by
 cases d with
 |zero=>exact h.elim
 |succ d=>rw[eR];omega
theorem LM:∀{t:Tr},hY d t->fT d t=false->eP lv fl d t=eP lv' G d t:=by
 induction d with
 |zero=>intro t h;exact h.elim
 |succ d ih=>
  intro t h D;rw[fT] at D;simp only[UH,Uw] at D;rw[eP,eP,Sh λc I=>ih (h.2 c I) (by
   have:=D.2;rw[List.any_eq_false] at this;have:=this c I;simpa using this)]
  congr 1;have z: ¬27<=t.k:=λz=>D.1.1 ⟨z,by
   rcases h.1 with⟨E,_⟩|⟨E,_⟩|⟨E,_⟩|⟨E,_⟩
   ·unfold dy at E;omega
   ·omega
   ·omega
   unfold fh at E;omega⟩
  unfold gS kP;rw[RH D.1.2,RH D.1.2,RH z,RH z]
theorem Alike.refl {lt lv fl d t} (h:hY d t):Alike lt lt lv lv fl d t t:=⟨h,rfl,rfl,RL _⟩
theorem Alike.trans {lt lt' z lv lv' D fl d t u v} (G:Alike lt lt' lv lv' fl d t u) (E:Alike lt' z lv' D fl d u v):Alike lt z lv D fl d t v:=
 ⟨E.wf,E.ty.trans G.ty,E.ev.trans G.ev,SF E.cnt G.cnt⟩
theorem oL (h:hY d t) (D:dy t.k):t.kids=[]:=by
 cases d with
 |zero=>exact h.elim
 |succ d=>
  unfold dy at D;rcases h.1 with⟨_,z,_⟩|⟨z,_⟩|⟨z,_⟩|⟨z,_⟩
  ·exact z
  ·omega
  ·omega
  unfold fh at z;omega
theorem oM (h:hY d t) (z:t.k=20):eP lv fl d t=1:=by
 cases d with
 |zero=>exact h.elim
 |succ d=>
  have D:=oL h (by unfold dy;omega)
  rw[eP,D];show gS lv fl t=1;unfold gS kP;rw[z];rfl
theorem mO (h:hY d t) (z:t.k=21):eP lv fl d t=0:=by
 cases d with
 |zero=>exact h.elim
 |succ d=>
  have D:=oL h (by unfold dy;omega)
  rw[eP,D];show gS lv fl t=0;unfold gS kP;rw[z];rfl
theorem wX {n:Nat}:∀{l:List Nat},n∈l->n<=l.sum
 |[],h=>by simp at h
 |x::l,h=>by
  rcases Sm.1 h with rfl|h
  ·simp
  have:=wX h;simp only[Uk];omega
theorem qy {lt} (h:hY (d+1) t) (E:a∈t.kids) (G:cP lt (d+1) t=cP lt d a) (I:eP lv fl (d+1) t=eP lv fl d a):Alike lt lt lv lv fl (d+1) t a:=by
 have z:=h.2 a E;refine⟨z.up (by omega),by rw[nu z (by omega),G],by rw[pU z (by omega),I],?_⟩
 rw[qw z (by omega),eR]
 have:eR d a<=(t.kids.map (eR d)).sum:=wX (Tk E);omega
theorem rO {lt:List Nat} (z:t.kids=[a,b]):cP lt (d+1) t=ef t.k [cP lt d a,cP lt d b]:=by
 rw[cP,z,RH (by simp)];rfl
theorem EX {lv fl:List Int} (z:t.kids=[a,b]):eP lv fl (d+1) t=sS t.k (eP lv fl d a) (eP lv fl d b):=by
 rw[eP,z];rfl
theorem ry {lt} (hV:kG lt lv) (hF:dI fl) (h:hY (d+1) t) (O:cP lt (d+1) t≠0) (hk:t.k=17\/t.k=18):Alike lt lt lv lv fl (d+1) t (if t.k=18 then jL t 21 20 else jL t 20 21):=by
 obtain⟨a,b,E⟩:∃a b,t.kids=[a,b]:=by
  rcases h.1 with⟨R,_⟩|⟨R,_⟩|⟨R,_⟩|⟨_,R⟩
  ·unfold dy at R;omega
  ·omega
  ·omega
  exact R
 have G:=h.2 a (by rw[E];simp)
 have I:=h.2 b (by rw[E];simp)
 have e0:t.kid 0=a:=by unfold Tr.kid;rw[E];rfl
 have e1:t.kid 1=b:=by unfold Tr.kid;rw[E];rfl
 have U:=rO (lt:=lt) (d:=d) E;have aa:=EX (lv:=lv) (fl:=fl) (d:=d) E;have V:∀x y,ef t.k [x,y]=if x=2/\y=2 then 2 else 0:=λx y=>by
  simp only[ef];rw[RH (by omega),RH (by omega),RH (by omega)]
 rw[U,V] at O;split at O
 ·rename_i D;have J:=(kH hV hF G (by omega)).2 D.1
  have ab:=(kH hV hF I (by omega)).2 D.2
  have ta:cP lt (d+1) t=cP lt d a:=by rw[U,V,RK D,D.1]
  have tb:cP lt (d+1) t=cP lt d b:=by rw[U,V,RK D,D.2]
  have ka:=λe=>qy (lv:=lv) (fl:=fl) h (a:=a) (by rw[E];simp) ta e
  have kb:=λe=>qy (lv:=lv) (fl:=fl) h (a:=b) (by rw[E];simp) tb e
  unfold jL;rw[e0,e1];by_cases Y:t.k=18
  ·rw[RK Y];have Z:eP lv fl (d+1) t=cR (eP lv fl d a==1&&eP lv fl d b==1):=by rw[aa];unfold sS;rw[Y];rfl
   split
   ·rename_i z;refine ka ?_;rw[Z];rcases z with z|z
    ·rw[mO G z];rfl
    rw[oM I z];rcases J with e|e<;>rw[e]<;>rfl
   split
   ·rename_i z;refine kb ?_;rw[Z];rcases z with z|z
    ·rw[mO I z];rcases J with e|e<;>rw[e]<;>rfl
    rw[oM G z];rcases ab with e|e<;>rw[e]<;>rfl
   exact Alike.refl h
  have ad:t.k=17:=by omega
  rw[RH Y];have ac:eP lv fl (d+1) t=cR (eP lv fl d a==1||eP lv fl d b==1):=by rw[aa];unfold sS;rw[ad];rfl
  split
  ·rename_i z;refine ka ?_;rw[ac];rcases z with z|z
   ·rw[oM G z];rfl
   rw[mO I z];rcases J with e|e<;>rw[e]<;>rfl
  split
  ·rename_i z;refine kb ?_;rw[ac];rcases z with z|z
   ·rw[oM I z];rcases J with e|e<;>rw[e]<;>rfl
   rw[mO G z];rcases ab with e|e<;>rw[e]<;>rfl
  exact Alike.refl h
 exact absurd rfl O
theorem Cw {lt} (V:kG lt lv) (Y:dI fl) (h:hY (d+1) t) (D:cP lt (d+1) t≠0):Alike lt lt lv lv fl (d+1) t (iU t):=by
 unfold iU;by_cases U:t.k=19
 ·rw[RK U];obtain⟨a,J⟩:∃a,t.kids=[a]:=by
   rcases h.1 with⟨z,_⟩|⟨_,z⟩|⟨z,_⟩|⟨z,_⟩
   ·unfold dy at z;omega
   ·exact z
   ·omega
   unfold fh at z;omega
  have O:=h.2 a (by rw[J];simp)
  have e0:t.kid 0=a:=by unfold Tr.kid;rw[J];rfl
  rw[e0];by_cases Z:a.k=19
  ·rw[RK Z];cases d with
   |zero=>exact O.elim
   |succ d=>
    obtain⟨b,E⟩:∃b,a.kids=[b]:=by
     rcases O.1 with⟨z,_⟩|⟨_,z⟩|⟨z,_⟩|⟨z,_⟩
     ·unfold dy at z;omega
     ·exact z
     ·omega
     unfold fh at z;omega
    have I:=O.2 b (by rw[E];simp)
    have e1:a.kid 0=b:=by unfold Tr.kid;rw[E];rfl
    rw[e1];have t1:cP lt (d+1+1) t=if cP lt (d+1) a=2 then 2 else 0:=by rw[cP,J,RH (by simp)];rfl
    have t2:cP lt (d+1) a=if cP lt d b=2 then 2 else 0:=by rw[cP,E,RH (by simp)];rfl
    have v1:eP lv fl (d+1+1) t=1 - eP lv fl (d+1) a:=by rw[eP,J];rfl
    have v2:eP lv fl (d+1) a=1 - eP lv fl d b:=by rw[eP,E];rfl
    have aa:cP lt d b=2:=by
     rw[t1,t2] at D;by_cases e:cP lt d b=2
     ·exact e
     rw[RH e] at D;simp at D
    refine⟨I.up (by omega),?_,?_,?_⟩
    ·rw[nu I (by omega),t1,t2,aa];rfl
    ·rw[pU I (by omega),v1,v2];omega
    rw[qw I (by omega),eR,J]
    simp only[Sa,SA,Uk,List.sum_nil];rw[eR,E];simp only[Sa,SA,Uk,List.sum_nil];omega
  rw[RH Z];exact Alike.refl h
 rw[RH U];by_cases G:t.k=18
 ·rw[RK G];have:=ry V Y h D (.inr G);rw[RK G] at this;exact this
 rw[RH G];by_cases R:t.k=17
 ·rw[RK R];have:=ry V Y h D (.inl R);rw[RH G] at this;exact this
 rw[RH R];exact Alike.refl h
theorem AB {lt} (h:hY (d+1) t) (E:cP lt (d+1) t≠0) (aa:t.k=14):Alike lt lt lv lv fl (d+1) t (qx t):=by
 obtain⟨a,b,c,z⟩:∃a b c,t.kids=[a,b,c]:=by
  rcases h.1 with⟨D,_⟩|⟨D,_⟩|⟨_,D⟩|⟨D,_⟩
  ·unfold dy at D;omega
  ·omega
  ·exact D
  unfold fh at D;omega
 have O:=h.2 a (by rw[z];simp)
 have V:t.kid 0=a:=by unfold Tr.kid;rw[z];rfl
 have Y:t.kid 1=b:=by unfold Tr.kid;rw[z];rfl
 have Z:t.kid 2=c:=by unfold Tr.kid;rw[z];rfl
 have J:cP lt (d+1) t=if cP lt d a=2/\cP lt d b=cP lt d c then cP lt d b else 0:=by rw[cP,z,RH (by simp)];rfl
 have R:eP lv fl (d+1) t=if eP lv fl d a=1 then eP lv fl d b else eP lv fl d c:=by rw[eP,z];rfl
 unfold qx;rw[V,Y,Z];rw[J] at E;split at E
 ·rename_i U;rw[RK U] at J;by_cases G:a.k=20
  ·rw[RK G];exact qy h (by rw[z];simp) J (by rw[R,oM O G,RK rfl])
  rw[RH G];by_cases I:a.k=21
  ·rw[RK I];exact qy h (by rw[z];simp) (by rw[J,U.2]) (by rw[R,mO O I,RH (by decide)])
  rw[RH I];exact Alike.refl h
 exact absurd rfl E
theorem AD (z:dy k) (D:k=1->dL n) (E:k≠2):hY (d+1) ⟨k,n,0,[]⟩:=⟨.inl ⟨z,rfl,D,λe=>absurd e E⟩,by simp⟩
theorem lV:dI jF:=λn z=>by
 have e:jF.getD n 0=0:=by
  have:n=0\/n=1\/n=2\/n=3\/n=4\/n=5\/n=6\/n=7\/n=8:=by omega
  rcases this with rfl|rfl|rfl|rfl|rfl|rfl|rfl|rfl|rfl<;>rfl
 rw[e];exact⟨by unfold dL;omega,λ_=> .inl rfl⟩
theorem wY {lt} (hV:kG lt lv) (hF:dI fl) (h:hY (d+1) t) (z:cP lt (d+1) t≠0):Alike lt lt lv lv fl (d+1) t (mN (d+1) t):=by
 unfold mN;by_cases G:t.k=14
 ·rw[RK G];exact AB h z G
 rw[RH G];by_cases D:fT (d+1) t=true\/t.kids=[]
 ·rw[RK D];exact Alike.refl h
 rw[RH D];have hh:fT (d+1) t=false:=by
  cases e:fT (d+1) t with
  |true=>exact absurd (.inl e) D
  |false=>rfl
 have Y:t.kids≠[]:=λe=>D (.inr e)
 have Z:eP lv fl (d+1) t=eP [] jF (d+1) t:=LM h hh;have I:=kH hV hF h z;have hp:=oK h;rw[<-Z];by_cases R:t.k=6\/t.k=7
 ·rw[RK R];have J:cP lt (d+1) t=1:=by
   rcases h.1 with⟨E,_⟩|⟨E,_⟩|⟨E,_⟩|⟨_,a,b,O⟩
   ·unfold dy at E;omega
   ·omega
   ·omega
   rw[rO O] at z⊢;simp only[ef] at z⊢;rw[RK R] at z⊢;split at z
   ·rename_i D;rw[RK D]
   exact absurd rfl z
  refine⟨AD (.inl rfl) (λ_=>I.1) (by decide),?_,?_,?_⟩
  ·rw[J];rfl
  ·rfl
  simp[eR]
 rw[RH R];have J:cP lt (d+1) t=2:=by
  rcases h.1 with⟨_,E,_⟩|⟨_,a,O⟩|⟨E,_⟩|⟨hk,a,b,O⟩
  ·exact absurd E Y
  ·rw[cP,O,RH (by simp)] at z⊢
   simp only[Sa,SA,ef] at z⊢;split at z
   ·rename_i D;rw[RK D]
   exact absurd rfl z
  ·omega
  rw[rO O] at z⊢;simp only[ef] at z⊢;rw[RH R] at z⊢;split at z
  ·rename_i U;rw[RK U];split at z
   ·rename_i D;rw[RK D]
   exact absurd rfl z
  rename_i U;rw[RH U];split at z
  ·rename_i V;rw[RK V];split at z
   ·rename_i D;rw[RK D]
   exact absurd rfl z
  rename_i V;rw[RH V];split at z
  ·rename_i D;rw[RK D]
  exact absurd rfl z
 have aa:=I.2 J;by_cases E:eP lv fl (d+1) t=1
 ·rw[RK E];refine⟨AD (.inr (.inr (by omega))) (λe=>by omega) (by decide),?_,?_,?_⟩
  ·rw[J];rfl
  ·rw[E];rfl
  simp[eR]
 rw[RH E];refine⟨AD (.inr (.inr (by omega))) (λe=>by omega) (by decide),?_,?_,?_⟩
 ·rw[J];rfl
 ·have:eP lv fl (d+1) t=0:=by omega
  rw[this];rfl
 simp[eR]
theorem rP {α:Type} {f g:α->Nat}:∀{l:List α},(∀x∈l,f x<=g x)->(l.map f).sum<=(l.map g).sum
 |[],_=>RL _
 |x::l,h=>by
  have D:=h x (by simp)
  have E:=rP (l:=l) (f:=f) (g:=g) λy z=>h y (by simp[z])
  simp only[Sa,Uk];omega
theorem nw {lt} (h:hY (d+1) t) (z:cP lt (d+1) t≠0):∀c∈t.kids,cP lt d c≠0:=by
 rcases h.1 with⟨_,I,_⟩|⟨_,a,E⟩|⟨_,a,b,c,E⟩|⟨J,a,b,E⟩
 ·rw[I];simp
 ·rw[cP,E,RH (by simp)] at z
  simp only[Sa,SA,ef] at z;intro x D;rw[E] at D;simp at D;subst D;split at z
  ·omega
  exact absurd rfl z
 ·rw[cP,E,RH (by simp)] at z
  simp only[Sa,SA,ef] at z;intro x D;rw[E] at D;simp at D;split at z
  ·rename_i G;rcases D with rfl|rfl|rfl
   ·omega
   ·exact z
   rw[<-G.2];exact z
  exact absurd rfl z
 rw[rO E] at z;simp only[ef] at z;intro x D;rw[E] at D;simp at D;split at z
 ·split at z
  ·rcases D with rfl|rfl<;>omega
  exact absurd rfl z
 split at z
 ·split at z
  ·rcases D with rfl|rfl<;>omega
  exact absurd rfl z
 split at z
 ·split at z
  ·rename_i G;rcases D with rfl|rfl
   ·exact G.2
   rw[<-G.1];exact G.2
  exact absurd rfl z
 split at z
 ·rcases D with rfl|rfl<;>omega
 exact absurd rfl z
theorem wZ {lt} (Z:wW p lets lt lt' lv lv' fl) (hV:kG lt' lv') (hF:dI fl):∀{t},hY d t->cP lt d t≠0->Alike lt lt' lv lv' fl d t (kW p lets d t):=by
 induction d with
 |zero=>intro t h;exact h.elim
 |succ d ih=>
  intro t h G;rw[kW];have ab:=nw h G;have I:∀c∈t.kids,Alike lt lt' lv lv' fl d c (kW p lets d c):=λc D=>ih (h.2 c D) (ab c D)
  have ac:(t.kids.map (kW p lets d)).map (cP lt' d)=t.kids.map (cP lt d):=by
   rw[TD];exact Sh λc D=>(I c D).ty
  have ad:(t.kids.map (kW p lets d)).map (eP lv' fl d)=t.kids.map (eP lv fl d):=by
   rw[TD];exact Sh λc D=>(I c D).ev
  have ae:hY (d+1) ⟨t.k,t.n,t.l,t.kids.map (kW p lets d)⟩:=by
   refine⟨?_,λc D=>?_⟩
   ·rcases h.1 with⟨E,z,h3,h4⟩|⟨E,a,z⟩|⟨E,a,b,c,z⟩|⟨E,a,b,z⟩
    ·exact .inl ⟨E,by rw[z];rfl,h3,h4⟩
    ·exact .inr (.inl ⟨E,_,by rw[z];rfl⟩)
    ·exact .inr (.inr (.inl ⟨E,_,_,_,by rw[z];rfl⟩))
    exact .inr (.inr (.inr ⟨E,_,_,by rw[z];rfl⟩))
   obtain⟨x,hx,rfl⟩:=Tc.1 D;exact(I x hx).wf
  have af:eR (d+1) ⟨t.k,t.n,t.l,t.kids.map (kW p lets d)⟩<=eR (d+1) t:=by
   rw[eR,eR];simp only[TD];have:=rP (l:=t.kids) (f:=eR d∘kW p lets d) (g:=eR d) λc D=>(I c D).cnt
   omega
  have base:(t.k=2->lt'.getD t.l.toNat 0=lt.getD t.l.toNat 0/\lv'.getD t.l.toNat 0=lv.getD t.l.toNat 0)->Alike lt lt' lv lv' fl (d+1) t ⟨t.k,t.n,t.l,t.kids.map (kW p lets d)⟩:=λhl=>by
   refine⟨ae,?_,?_,af⟩
   ·rw[cP,cP];simp only[ac,UK];have e:ee lt' ⟨t.k,t.n,t.l,t.kids.map (kW p lets d)⟩=ee lt t:=by
     unfold ee;simp only[];by_cases E:t.k=1
     ·rw[RK E,RK E]
     rw[RH E,RH E];by_cases z:t.k=2
     ·rw[RK z,RK z,(hl z).1]
     rw[RH z,RH z]
    rw[e]
   rw[eP,eP];simp only[ad];congr 1;unfold gS;simp only[];by_cases E:t.k=1
   ·rw[RK E,RK E]
   rw[RH E,RH E];by_cases z:t.k=2
   ·rw[RK z,RK z,(hl z).2]
   rw[RH z,RH z]
  have rest:∀c,Alike lt lt' lv lv' fl (d+1) t c->Alike lt lt' lv lv' fl (d+1) t (if p.pru then iU (if p.fol then mN (d+1) c else c) else(if p.fol then mN (d+1) c else c)):=λc D=>by
   have E:Alike lt lt' lv lv' fl (d+1) t (if p.fol then mN (d+1) c else c):=by
    split
    ·exact D.trans (wY hV hF D.wf (by rw[D.ty];exact G))
    exact D
   split
   ·exact E.trans (Cw hV hF E.wf (by rw[E.ty];exact G))
   exact E
  have J:t.k=2->t.kids=[]/\lt.getD t.l.toNat 0≠0:=λz=>by
   have O:=oL h (by unfold dy;omega)
   refine⟨O,?_⟩;rw[cP,RK O] at G;unfold ee at G;rwa [RH (by omega),RK z] at G
  unfold OS;refine rest _ ?_;by_cases R:p.inl=true
  ·rw[RK R];unfold oJ;simp only[];by_cases D:t.k=2/\(lets.getD t.l.toNat fL).kids=[]
   ·rw[RK D];obtain⟨O,ag⟩:=J D.1;obtain⟨U,o2,o3⟩:=Z.one _ ag R D.2;refine⟨U.up (by omega),?_,?_,?_⟩
    ·rw[nu U (by omega),o2,cP,RK O]
     unfold ee;rw[RH (by omega),RK D.1]
    ·rw[pU U (by omega),o3,eP,O]
     show _=gS lv fl t;unfold gS;rw[RH (by omega),RK D.1]
    rw[qw U (by omega),eR,D.2]
    have:=oK h;simpa using this
   rw[RH D];refine base λz=>?_
   exact Z.same _ (J z).2 λe=>D ⟨z,e.2⟩
  rw[RH R];exact base λz=>Z.same _ (J z).2 λe=>R e.1
end Go.Proofs.YtfkdailfcmnjlaaGreatDoor
