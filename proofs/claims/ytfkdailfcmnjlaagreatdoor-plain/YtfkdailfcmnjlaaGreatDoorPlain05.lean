/-
  Of digits: a number's text is above the greatest of 64 bits with sign just if its value is.
-/
import Derived.Test.YtfkdailfcmnjlaaGreatDoorPlain01
import GoSem.Op.String
set_option linter.unusedVariables false
set_option linter.unusedSimpArgs false
namespace Go.Proofs.YtfkdailfcmnjlaaGreatDoor
open Go

def dv (n : Nat) (l : List UInt8) : Nat := l.foldl (fun n c => n * 10 + (c.toNat - 48)) n
theorem dv_cons (n : Nat) (c : UInt8) (l : List UInt8) : dv n (c :: l) = dv (n * 10 + (c.toNat - 48)) l := by unfold dv; rw [List.foldl_cons]
theorem mul_shift (n c M : Nat) : (n * 10 + c) * M = n * (M * 10) + c * M := by
  rw [Nat.add_mul, Nat.mul_assoc, Nat.mul_comm 10 M]
theorem dv_acc (l : List UInt8) : ∀ n, dv n l = n * 10 ^ l.length + dv 0 l := by
  induction l with
  | nil => intro n; simp [dv]
  | cons c l ih =>
    intro n
    have h1 := ih (n * 10 + (c.toNat - 48))
    have h2 := ih (0 * 10 + (c.toNat - 48))
    rw [dv_cons n, dv_cons 0, h1, h2, List.length_cons, Nat.pow_succ, mul_shift, mul_shift, Nat.zero_mul, Nat.zero_add, Nat.add_assoc]
theorem isD_le {c : UInt8} (h : isD c = true) : 48 ≤ c.toNat ∧ c.toNat ≤ 57 := by simpa [isD] using h
end Go.Proofs.YtfkdailfcmnjlaaGreatDoor
