/-
  A part.
-/
import Derived.Test.YtfkdailfcmnjlaaGreatDoorAll01
import GoSem.Op.String
set_option linter.all false
set_option maxHeartbeats 40000000
set_option maxRecDepth 1000000
namespace Go.Proofs.YtfkdailfcmnjlaaGreatDoor
open Go
variable {c}
def yd:List UInt8:=[57,50,50,51,51,55,50,48,51,54,56,53,52,55,55,53,56,48,55]
def NI (a b:List UInt8):Bool:=!Op.bytesLess a b&&!a==b
def kZ (s:List UInt8):Bool:=decide (19<(s.drop (dm xy s 0)).length)||(decide ((s.drop (dm xy s 0)).length=19)&&NI (s.drop (dm xy s 0)) yd)
def dv (n:Nat) (l:List UInt8):Nat:=l.foldl (λn c=>n*10+(c.toNat - 48)) n
theorem kN (n) (c) (l:LB):dv n (c::l)=dv (n*10+(c.toNat - 48)) l:=by unfold dv;rw[R9]
theorem ye (n c M):(n*10+c)*M=n*(M*10)+c*M:=by
 rw[Nat.add_mul,Nat.mul_assoc,Nat.mul_comm 10 M]
theorem qZ (l:LB):∀n,dv n l=n*10^l.length+dv 0 l:=by
 induction l with
 |nil=>intro n;simp[dv]
 |cons c l ih=>
  intro n;have z:=ih (n*10+(c.toNat - 48));have D:=ih (0*10+(c.toNat - 48));rw[kN n,kN 0,z,D,QH,Tl,ye,ye,Nat.zero_mul,QO,R0]
theorem re (h:jk c=true):48<=c.toNat/\c.toNat<=57:=by simpa [jk] using h
theorem Jh (l:LB) (h:∀c∈l,jk c=true):dv 0 l<10^l.length:=by
 induction l with
 |nil=>simp[dv]
 |cons c l ih=>
  have D:=re (h c (by simp))
  have:=ih (λd z=>h d (by simp[z]))
  rw[kN,qZ l (0*10+(c.toNat - 48)),QH,Tl];have E:(0*10+(c.toNat - 48))*10^l.length<=9*10^l.length:=R6 _ (by omega)
  omega
theorem OW (c) (l:LB) (h:49<=c.toNat):10^l.length<=dv 0 (c::l):=by
 rw[kN,qZ l (0*10+(c.toNat - 48))];have z:1*10^l.length<=(0*10+(c.toNat - 48))*10^l.length:=R6 _ (by omega)
 omega
theorem LY (a:LB):∀b:LB,a.length=b.length->(∀c∈a,jk c=true)->(∀c∈b,jk c=true)->Op.bytesLess a b=decide (dv 0 a<dv 0 b):=by
 induction a with
 |nil=>intro b E _ _;cases b with
  |nil=>simp[Op.bytesLess]
  |cons=>simp at E
 |cons x a ih=>
  intro b E J O;cases b with
  |nil=>simp at E
  |cons y b=>
   have D:a.length=b.length:=by simpa using E
   have Y:=re (J x (by simp))
   have Z:=re (O y (by simp))
   have R:=Jh a (λd z=>J d (by simp[z]))
   have ib:=Jh b (λd z=>O d (by simp[z]))
   have i:=ih b D (λd z=>J d (by simp[z])) (λd z=>O d (by simp[z]))
   rw[Op.bytesLess,i,kN,kN,qZ a (0*10+(x.toNat - 48)),qZ b (0*10+(y.toNat - 48)),D];rw[D] at R;generalize 10^b.length=M at*;by_cases G:x<y
   ·have I:x.toNat<y.toNat:=Su.1 G;have h3:(0*10+(x.toNat - 48)+1)*M<=(0*10+(y.toNat - 48))*M:=R6 _ (by omega)
    rw[Nat.add_mul (0*10+(x.toNat - 48)) 1 M] at h3;simp only[G,decide_true,TE];exact(QZ (by omega)).symm
   by_cases I:x=y
   ·subst I;simp
   have h3:y.toNat<x.toNat:=by
    have h4: ¬x.toNat<y.toNat:=λh=>G (Su.2 h)
    have h5:x.toNat≠y.toNat:=λh=>I (RD.1 h)
    omega
   have U:(0*10+(y.toNat - 48)+1)*M<=(0*10+(x.toNat - 48))*M:=R6 _ (by omega)
   rw[Nat.add_mul (0*10+(y.toNat - 48)) 1 M] at U;have V:(x==y)=false:=by simp[I]
   simp only[G,V,decide_false,TM,SZ];exact(QM (by omega)).symm
theorem Ji (a:LB):∀b:LB,NI a b=Op.bytesLess b a:=by
 induction a with
 |nil=>intro b;cases b<;>simp[NI,Op.bytesLess]
 |cons x a ih=>
  intro b;cases b with
  |nil=>simp[NI,Op.bytesLess]
  |cons y b=>
   have i:=ih b;unfold NI at i⊢;rw[Op.bytesLess,Op.bytesLess,<-i];by_cases h:x=y
   ·subst h;simp
   have E:(y==x)=false:=by simp[Rt h]
   have G:(x==y)=false:=by simp[h]
   have z:(y<x)↔ ¬(x<y):=by
    rw[Su,Su];have I:x.toNat≠y.toNat:=λe=>h (RD.1 e)
    omega
   simp only[E,G,SZ,Bool.or_false,List.cons_beq_cons,Bool.not_false,Bool.and_true];by_cases D:x<y
   ·simp[D,z]
   simp[D,z]
theorem Jj (s:LB):dv 0 s=dv 0 (s.drop (s.takeWhile xy).length):=by
 induction s with
 |nil=>rfl
 |cons c s ih=>
  by_cases h:xy c=true
  ·rw[SE h];have:c.toNat=48:=by simpa [xy] using h
   rw[kN,this];simpa using ih
  rw[SF h];rfl
theorem vk (p) (s:LB) (c) (t:LB) (h:s.drop (s.takeWhile p).length=c::t):p c=false:=by
 induction s with
 |nil=>simp at h
 |cons x s ih=>
  by_cases z:p x=true
  ·rw[SE z] at h;exact ih (by simpa using h)
  rw[SF z] at h;simp at h;rw[<-h.1];simpa using z
theorem CS (s:LB) (h:∀c∈s,jk c=true):kZ s=big s:=by
 unfold kZ big;have e:dW s=dv 0 s:=rfl;have O:dm xy s 0=(s.takeWhile xy).length:=by simp[dm]
 rw[e,Jj,O];have D:∀c∈s.drop (s.takeWhile xy).length,jk c=true:=λc G=>h c (SG G)
 generalize R:s.drop (s.takeWhile xy).length=t at*;have U:dv 0 yd=9223372036854775807:=by decide
 have I:∀c∈yd,jk c=true:=by decide
 by_cases E:t.length=19
 ·have:=LY yd t (by rw[E];rfl) I D
  rw[Ji,this,U];simp[E]
 by_cases z:19<t.length
 ·cases t with
  |nil=>simp at z
  |cons c t=>
   have V:=vk xy s c t R;have G:=re (D c (by simp))
   have J:49<=c.toNat:=by
    have: ¬c.toNat=48:=by simpa [xy] using V
    omega
   have aa:=OW c t J;have h3:10^19<=10^t.length:=R7 (by decide) (by simp at z;omega)
   simp only[z,decide_true,TE];exact(QZ (by omega)).symm
 have ab:=Jh t D;have h3:10^t.length<=10^18:=R7 (by decide) (by omega)
 simp only[E,z,decide_false,SZ,Bool.or_false];exact(QM (by omega)).symm
end Go.Proofs.YtfkdailfcmnjlaaGreatDoor
