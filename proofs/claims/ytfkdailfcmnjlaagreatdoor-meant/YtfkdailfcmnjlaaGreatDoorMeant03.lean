/-
  A part.
-/
import Derived.Test.YtfkdailfcmnjlaaGreatDoorMeant01
import GoSem.Op.String
set_option linter.unusedVariables false
set_option linter.unusedSimpArgs false
set_option maxHeartbeats 40000000
set_option maxRecDepth 1000000
namespace Go.Proofs.YtfkdailfcmnjlaaGreatDoor
open Go
def dv (n:Nat) (l:List UInt8):Nat:=l.foldl (fun n c=>n*10+(c.toNat - 48)) n
theorem zF (n:Nat) (c:UInt8) (l:List UInt8):dv n (c::l)=dv (n*10+(c.toNat - 48)) l:=by unfold dv;rw[aaz]
theorem yz (n c M:Nat):(n*10+c)*M=n*(M*10)+c*M:=by
 rw[Nat.add_mul,Nat.mul_assoc,Nat.mul_comm 10 M]
theorem M1 (l:List UInt8):∀n,dv n l=n*10^l.length+dv 0 l:=by
 induction l with
 |nil=>intro n;simp[dv]
 |cons c l ih=>
  intro n;have z:=ih (n*10+(c.toNat - 48));have D:=ih (0*10+(c.toNat - 48));rw[zF n,zF 0,z,D,Z7,acs,yz,yz,Nat.zero_mul,aaq,aaV]
theorem I3 {c:UInt8} (h:ld c=true):48≤c.toNat∧c.toNat≤57:=by simpa [ld] using h
end Go.Proofs.YtfkdailfcmnjlaaGreatDoor
