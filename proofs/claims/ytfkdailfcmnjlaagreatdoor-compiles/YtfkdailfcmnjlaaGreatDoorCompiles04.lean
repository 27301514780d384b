/-
  A part.
-/
import Derived.Test.YtfkdailfcmnjlaaGreatDoorCompiles01
import GoSem.Op.String
set_option linter.all false
set_option maxHeartbeats 40000000
set_option maxRecDepth 1000000
namespace Go.Proofs.YtfkdailfcmnjlaaGreatDoor
open Go
variable {c}
def yO:List UInt8:=[57,50,50,51,51,55,50,48,51,54,56,53,52,55,55,53,56,48,55]
def Ph (a b:List UInt8):Bool:=!Op.bytesLess a b&&!a==b
def lH (s:List UInt8):Bool:=decide (19<(s.drop (de yb s 0)).length)||(decide ((s.drop (de yb s 0)).length=19)&&Ph (s.drop (de yb s 0)) yO)
def dv (n:Nat) (l:List UInt8):Nat:=l.foldl (λn c=>n*10+(c.toNat - 48)) n
theorem ln (n) (c) (l:LB):dv n (c::l)=dv (n*10+(c.toNat - 48)) l:=by unfold dv;rw[To]
theorem yP (n c M):(n*10+c)*M=n*(M*10)+c*M:=by
 rw[Nat.add_mul,Nat.mul_assoc,Nat.mul_comm 10 M]
theorem rL (l:LB):∀n,dv n l=n*10^l.length+dv 0 l:=by
 induction l with
 |nil=>intro n;simp[dv]
 |cons c l ih=>
  intro n;have z:=ih (n*10+(c.toNat - 48));have D:=ih (0*10+(c.toNat - 48));rw[ln n,ln 0,z,D,R7,UT,yP,yP,Nat.zero_mul,Sw,Th]
theorem rM (h:im c=true):48<=c.toNat/\c.toNat<=57:=by simpa [im] using h
theorem KO (l:LB) (h:∀c∈l,im c=true):dv 0 l<10^l.length:=by
 induction l with
 |nil=>simp[dv]
 |cons c l ih=>
  have D:=rM (h c (by simp))
  have:=ih (λd z=>h d (by simp[z]))
  rw[ln,rL l (0*10+(c.toNat - 48)),R7,UT];have E:(0*10+(c.toNat - 48))*10^l.length<=9*10^l.length:=TT _ (by omega)
  omega
theorem Qv (c) (l:LB) (h:49<=c.toNat):10^l.length<=dv 0 (c::l):=by
 rw[ln,rL l (0*10+(c.toNat - 48))];have z:1*10^l.length<=(0*10+(c.toNat - 48))*10^l.length:=TT _ (by omega)
 omega
theorem Nq (a:LB):∀b:LB,a.length=b.length->(∀c∈a,im c=true)->(∀c∈b,im c=true)->Op.bytesLess a b=decide (dv 0 a<dv 0 b):=by
 induction a with
 |nil=>intro b E _ _;cases b with
  |nil=>simp[Op.bytesLess]
  |cons=>simp at E
 |cons x a ih=>
  intro b E J O;cases b with
  |nil=>simp at E
  |cons y b=>
   have D:a.length=b.length:=by simpa using E
   have Y:=rM (J x (by simp))
   have Z:=rM (O y (by simp))
   have R:=KO a (λd z=>J d (by simp[z]))
   have ib:=KO b (λd z=>O d (by simp[z]))
   have i:=ih b D (λd z=>J d (by simp[z])) (λd z=>O d (by simp[z]))
   rw[Op.bytesLess,i,ln,ln,rL a (0*10+(x.toNat - 48)),rL b (0*10+(y.toNat - 48)),D];rw[D] at R;generalize 10^b.length=M at*;by_cases G:x<y
   ·have I:x.toNat<y.toNat:=Ue.1 G;have h3:(0*10+(x.toNat - 48)+1)*M<=(0*10+(y.toNat - 48))*M:=TT _ (by omega)
    rw[Nat.add_mul (0*10+(x.toNat - 48)) 1 M] at h3;simp only[G,decide_true,Vb];exact(Sr (by omega)).symm
   by_cases I:x=y
   ·subst I;simp
   have h3:y.toNat<x.toNat:=by
    have h4: ¬x.toNat<y.toNat:=λh=>G (Ue.2 h)
    have h5:x.toNat≠y.toNat:=λh=>I (Tq.1 h)
    omega
   have U:(0*10+(y.toNat - 48)+1)*M<=(0*10+(x.toNat - 48))*M:=TT _ (by omega)
   rw[Nat.add_mul (0*10+(y.toNat - 48)) 1 M] at U;have V:(x==y)=false:=by simp[I]
   simp only[G,V,decide_false,Vk,UA];exact(Sc (by omega)).symm
theorem KQ (a:LB):∀b:LB,Ph a b=Op.bytesLess b a:=by
 induction a with
 |nil=>intro b;cases b<;>simp[Ph,Op.bytesLess]
 |cons x a ih=>
  intro b;cases b with
  |nil=>simp[Ph,Op.bytesLess]
  |cons y b=>
   have i:=ih b;unfold Ph at i⊢;rw[Op.bytesLess,Op.bytesLess,<-i];by_cases h:x=y
   ·subst h;simp
   have E:(y==x)=false:=by simp[SY h]
   have G:(x==y)=false:=by simp[h]
   have z:(y<x)↔ ¬(x<y):=by
    rw[Ue,Ue];have I:x.toNat≠y.toNat:=λe=>h (Tq.1 e)
    omega
   simp only[E,G,UA,Bool.or_false,List.cons_beq_cons,Vh,Bool.and_true];by_cases D:x<y
   ·simp[D,z]
   simp[D,z]
theorem KR (s:LB):dv 0 s=dv 0 (s.drop (s.takeWhile yb).length):=by
 induction s with
 |nil=>rfl
 |cons c s ih=>
  by_cases h:yb c=true
  ·rw[Tg h];have:c.toNat=48:=by simpa [yb] using h
   rw[ln,this];simpa using ih
  rw[S0 h];rfl
theorem we (p) (s:LB) (c) (t:LB) (h:s.drop (s.takeWhile p).length=c::t):p c=false:=by
 induction s with
 |nil=>simp at h
 |cons x s ih=>
  by_cases z:p x=true
  ·rw[Tg z] at h;exact ih (by simpa using h)
  rw[S0 z] at h;simp at h;rw[<-h.1];simpa using z
theorem D7 (s:LB) (h:∀c∈s,im c=true):lH s=big s:=by
 unfold lH big;have e:dG s=dv 0 s:=rfl;have O:de yb s 0=(s.takeWhile yb).length:=by simp[de]
 rw[e,KR,O];have D:∀c∈s.drop (s.takeWhile yb).length,im c=true:=λc G=>h c (Ul G)
 generalize R:s.drop (s.takeWhile yb).length=t at*;have U:dv 0 yO=9223372036854775807:=by decide
 have I:∀c∈yO,im c=true:=by decide
 by_cases E:t.length=19
 ·have:=Nq yO t (by rw[E];rfl) I D
  rw[KQ,this,U];simp[E]
 by_cases z:19<t.length
 ·cases t with
  |nil=>simp at z
  |cons c t=>
   have V:=we yb s c t R;have G:=rM (D c (by simp))
   have J:49<=c.toNat:=by
    have: ¬c.toNat=48:=by simpa [yb] using V
    omega
   have aa:=Qv c t J;have h3:10^19<=10^t.length:=TU (by decide) (by simp at z;omega)
   simp only[z,decide_true,Vb];exact(Sr (by omega)).symm
 have ab:=KO t D;have h3:10^t.length<=10^18:=TU (by decide) (by omega)
 simp only[E,z,decide_false,UA,Bool.or_false];exact(Sc (by omega)).symm
end Go.Proofs.YtfkdailfcmnjlaaGreatDoor
