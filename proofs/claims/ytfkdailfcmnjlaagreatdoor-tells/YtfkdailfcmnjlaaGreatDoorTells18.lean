/-
  What the program makes of two values. The document's Fields.
-/
import Derived.Test.YtfkdailfcmnjlaaGreatDoorTells01
import Derived.Test.YtfkdailfcmnjlaaGreatDoorTells02
import Derived.Test.YtfkdailfcmnjlaaGreatDoorTells04
import Derived.Test.YtfkdailfcmnjlaaGreatDoorTells05
import Derived.Test.YtfkdailfcmnjlaaGreatDoorTells06
import Derived.Test.YtfkdailfcmnjlaaGreatDoorTells07
import Derived.Test.YtfkdailfcmnjlaaGreatDoorTells08
import Derived.Test.YtfkdailfcmnjlaaGreatDoorTells09
import Derived.Test.YtfkdailfcmnjlaaGreatDoorTells10
import Derived.Test.YtfkdailfcmnjlaaGreatDoorTells11
import Derived.Test.YtfkdailfcmnjlaaGreatDoorTells12
import Derived.Test.YtfkdailfcmnjlaaGreatDoorTells13
import Derived.Test.YtfkdailfcmnjlaaGreatDoorLays
import Derived.WalkKit
import Derived.Deep.QuietTactic
import Derived.BigQuiet
import Derived.WalkSpells
import GoSem.Op.String
import Derived.Deep.AppendLies
import Derived.Deep.RegionHeld3
import Derived.Deep.DrawnRows
import Derived.Deep.RegionHeldLaw
import Derived.Deep.RegionLaw
import Derived.Lib.ParseIntBCases
set_option linter.unusedVariables false
set_option linter.unusedSimpArgs false
namespace Go.Proofs.YtfkdailfcmnjlaaGreatDoor
open Go Go.RowKit
set_option maxRecDepth 100000
attribute [local go_sem ↓] Go.wp_at_zero Go.wp_at_succ

set_option maxHeartbeats 4000000 in
theorem tellOver_any {x : List UInt8} (hx : x ∈ ([[43], [45], [60], [60, 61], [61], [111, 114], [97, 110, 100]] : List (List UInt8))) {a b : Int} (ha : In64 a) (hb : In64 b) (w : World) :
    Calls Tryz.prog 126 #[.int .i64 (kn x), .int .i64 a, .int .i64 b] w fun e w' => e = .returned (.int .i64 (twoI x a b)) ∧ w' = w := by
  simp only [List.mem_cons, List.not_mem_nil, or_false] at hx
  rcases hx with rfl | rfl | rfl | rfl | rfl | rfl | rfl
  · have HC : Hid (twoI [43] a b = clampI (a + b)) := rfl
    have W1 := fun W => padd_any ha hb W
    rw [show kn [43] = 6 from by decide]
    generalize clampI (a + b) = r at *
    go_enter Tryz.func126, Tryz.ntmps126
    go_wp2_with fail
    refine (W1 _).mono ?_
    rintro e w1 ⟨rfl, rfl⟩
    clear W1
    go_wp2_with fail
    go_ret
    exact ⟨by rw [HC.out]; rfl, rfl⟩
  · have HC : Hid (twoI [45] a b = clampI (a - b)) := rfl
    have W1 := fun W => psub_any ha hb W
    rw [show kn [45] = 7 from by decide]
    generalize clampI (a - b) = r at *
    go_enter Tryz.func126, Tryz.ntmps126
    go_wp2_with fail
    refine (W1 _).mono ?_
    rintro e w1 ⟨rfl, rfl⟩
    clear W1
    go_wp2_with fail
    go_ret
    exact ⟨by rw [HC.out]; rfl, rfl⟩
  · have HC : Hid (twoI [60] a b = truthI (decide (a < b))) := rfl
    have W1 := fun W => pless_any a b W
    rw [show kn [60] = 10 from by decide]
    generalize truthI (decide (a < b)) = r at *
    go_enter Tryz.func126, Tryz.ntmps126
    go_wp2_with fail
    refine (W1 _).mono ?_
    rintro e w1 ⟨rfl, rfl⟩
    clear W1
    go_wp2_with fail
    go_ret
    exact ⟨by rw [HC.out]; rfl, rfl⟩
  · have HC : Hid (twoI [60, 61] a b = truthI (decide (a ≤ b))) := rfl
    have W1 := fun W => patmost_any a b W
    rw [show kn [60, 61] = 9 from by decide]
    generalize truthI (decide (a ≤ b)) = r at *
    go_enter Tryz.func126, Tryz.ntmps126
    go_wp2_with fail
    refine (W1 _).mono ?_
    rintro e w1 ⟨rfl, rfl⟩
    clear W1
    go_wp2_with fail
    go_ret
    exact ⟨by rw [HC.out]; rfl, rfl⟩
  · have HC : Hid (twoI [61] a b = truthI (a == b)) := rfl
    have W1 := fun W => pequal_any a b W
    rw [show kn [61] = 8 from by decide]
    generalize truthI (a == b) = r at *
    go_enter Tryz.func126, Tryz.ntmps126
    go_wp2_with fail
    refine (W1 _).mono ?_
    rintro e w1 ⟨rfl, rfl⟩
    clear W1
    go_wp2_with fail
    go_ret
    exact ⟨by rw [HC.out]; rfl, rfl⟩
  · have HC : Hid (twoI [111, 114] a b = truthI (a == 1 || b == 1)) := rfl
    have W1 := fun W => por_any a b W
    rw [show kn [111, 114] = 17 from by decide]
    generalize truthI (a == 1 || b == 1) = r at *
    go_enter Tryz.func126, Tryz.ntmps126
    go_wp2_with fail
    refine (W1 _).mono ?_
    rintro e w1 ⟨rfl, rfl⟩
    clear W1
    go_wp2_with fail
    go_ret
    exact ⟨by rw [HC.out]; rfl, rfl⟩
  · have HC : Hid (twoI [97, 110, 100] a b = truthI (a == 1 && b == 1)) := rfl
    have W1 := fun W => pand_any a b W
    rw [show kn [97, 110, 100] = 18 from by decide]
    generalize truthI (a == 1 && b == 1) = r at *
    go_enter Tryz.func126, Tryz.ntmps126
    go_wp2_with fail
    refine (W1 _).mono ?_
    rintro e w1 ⟨rfl, rfl⟩
    clear W1
    go_wp2_with fail
    go_ret
    exact ⟨by rw [HC.out]; rfl, rfl⟩
end Go.Proofs.YtfkdailfcmnjlaaGreatDoor

namespace Go.Proofs.YtfkdailfcmnjlaaGreatDoor
open Go Go.RowKit
set_option maxRecDepth 100000
attribute [local go_sem ↓] Go.wp_at_zero Go.wp_at_succ

/-- An event; a state. -/
structure Ev where
  sender : List UInt8
  target : List UInt8
  wants : Int
  need : Int
  when_ : Int
structure Stt where
  levels : List (List UInt8 × Int)
  dflt : Int
  members : List (List UInt8 × Int)
  open_ : Bool
def evV (e : Ev) : Value := .agg #[S e.sender, S e.target, .int .i64 e.wants, .int .i64 e.need, .int .i64 e.when_]
def sttV (lv mv : Value) (s : Stt) : Value := .agg #[lv, .int .i64 s.dflt, mv, .bool s.open_]
/-- All nine fields. -/
def fieldsL (e : Ev) (s : Stt) : List Int := [firstI s.dflt s.levels e.sender, firstI s.dflt s.levels e.target, e.need, e.when_, firstK s.members e.sender, firstK s.members e.target, knownI e.wants, truthI (e.sender == e.target), truthI s.open_]

end Go.Proofs.YtfkdailfcmnjlaaGreatDoor
