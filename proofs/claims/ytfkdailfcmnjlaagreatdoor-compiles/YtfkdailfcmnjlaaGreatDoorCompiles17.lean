/-
  What the library's plain reading of a number gives of digits.
-/
import Derived.Test.YtfkdailfcmnjlaaGreatDoorCompiles01
import Derived.Test.YtfkdailfcmnjlaaGreatDoorCompiles04
import Derived.Test.YtfkdailfcmnjlaaGreatDoorCompiles05
import Derived.Test.YtfkdailfcmnjlaaGreatDoorCompiles06
import Derived.Test.YtfkdailfcmnjlaaGreatDoorCompiles07
import Derived.Test.YtfkdailfcmnjlaaGreatDoorCompiles08
import Derived.Test.YtfkdailfcmnjlaaGreatDoorCompiles16
import Derived.Lib.ParseIntBCases
import Derived.WalkKit
import Derived.Deep.QuietTactic
import Derived.BigQuiet
import Derived.WalkSpells
import GoSem.Op.String
import Derived.Deep.AppendLies
import Derived.Deep.RegionHeld3
import Derived.Deep.DrawnRows
import Derived.Deep.RegionHeldLaw
import Derived.Deep.RegionLaw
set_option linter.unusedVariables false
set_option linter.unusedSimpArgs false
namespace Go.Proofs.YtfkdailfcmnjlaaGreatDoor
open Go Go.RowKit
set_option maxRecDepth 100000

theorem dv_ge_acc (n : Nat) (l : List UInt8) : n ≤ dv n l := by
  rw [dv_acc]
  have : 1 ≤ 10 ^ l.length := Nat.pos_of_ne_zero (by simp)
  calc n = n * 1 := by omega
    _ ≤ n * 10 ^ l.length := Nat.mul_le_mul_left n this
    _ ≤ _ := by omega
theorem parseUintM_digits (l : List UInt8) : ∀ acc : Nat, (∀ c ∈ l, isD c = true) → acc ≤ 18446744073709551615 → Lib.parseUintM 18446744073709551615 acc l = if 18446744073709551615 < dv acc l then .range else .ok (dv acc l) := by
  induction l with
  | nil => intro acc _ ha; unfold Lib.parseUintM; rw [if_neg (by show ¬ _ < dv acc []; unfold dv; simp; omega)]; rfl
  | cons c r ih =>
    intro acc h ha
    have hc := isD_le (h c (by simp))
    unfold Lib.parseUintM
    rw [if_pos hc, dv_cons]
    have hge := dv_ge_acc (acc * 10 + (c.toNat - 48)) r
    by_cases h1 : 1844674407370955162 ≤ acc
    · rw [if_pos h1, if_pos (by omega)]
    · rw [if_neg h1]
      by_cases h2 : 18446744073709551615 < acc * 10 + (c.toNat - 48)
      · rw [if_pos h2, if_pos (by omega)]
      · rw [if_neg h2]
        exact ih _ (fun x hx => h x (by simp [hx])) (by omega)
theorem parse_digits (l : List UInt8) (h0 : l ≠ []) (h : ∀ c ∈ l, isD c = true) : Lib.parseIntB 64 l = if big l then .range else .ok ((decVal l : Nat) : Int) := by
  cases l with
  | nil => exact absurd rfl h0
  | cons c r =>
    have hc := isD_le (h c (by simp))
    rw [Lib.parseIntB_plain 64 c r (by omega) (by omega)]
    unfold Lib.parseUintB
    rw [if_neg h0, show (2 : Nat) ^ 64 - 1 = 18446744073709551615 from rfl, parseUintM_digits _ 0 h (by omega), show (2 : Nat) ^ (64 - 1) = 9223372036854775808 from rfl]
    have hd : decVal (c :: r) = dv 0 (c :: r) := rfl
    unfold big
    rw [hd]
    by_cases h1 : 18446744073709551615 < dv 0 (c :: r)
    · rw [if_pos h1, if_pos (by simp; omega)]; rfl
    · rw [if_neg h1]
      unfold Lib.signlessC
      by_cases h2 : 9223372036854775807 < dv 0 (c :: r)
      · simp only []
        rw [if_pos (by omega), if_pos (by simpa using h2)]
      · simp only []
        rw [if_neg (by omega), if_neg (by simpa using h2)]
/-- What 'number' answers. -/
def numV (s : List UInt8) : Value × Nat := if big s then (.agg #[.int .i64 0, .int .i64 0, .int .i64 0, S []], 0) else (.agg #[.int .i64 1, .int .i64 0, .int .i64 (decVal s), S []], s.length)
end Go.Proofs.YtfkdailfcmnjlaaGreatDoor
