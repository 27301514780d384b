/-
  The library's strings.Builder at this program: WriteString and String.
-/
import Derived.Test.YtfkdailfcmnjlaaGreatDoorCompiles01
import Derived.Test.YtfkdailfcmnjlaaGreatDoorCompiles04
import Derived.Test.YtfkdailfcmnjlaaGreatDoorCompiles05
import Derived.Test.YtfkdailfcmnjlaaGreatDoorCompiles06
import Derived.Test.YtfkdailfcmnjlaaGreatDoorCompiles07
import Derived.Test.YtfkdailfcmnjlaaGreatDoorCompiles08
import Derived.Test.YtfkdailfcmnjlaaGreatDoorCompiles16
import Derived.Test.YtfkdailfcmnjlaaGreatDoorCompiles17
import Derived.Test.YtfkdailfcmnjlaaGreatDoorCompiles18
import Derived.Test.YtfkdailfcmnjlaaGreatDoorLays2
import Derived.Test.YtfkdailfcmnjlaaGreatDoorLays
import Derived.Shelf.Strings.Builder1
import Derived.WalkKit
import Derived.Deep.QuietTactic
import Derived.BigQuiet
import Derived.WalkSpells
import GoSem.Op.String
import Derived.Deep.AppendLies
import Derived.Deep.RegionHeld3
import Derived.Deep.DrawnRows
import Derived.Deep.RegionHeldLaw
import Derived.Deep.RegionLaw
import Derived.Lib.ParseIntBCases
set_option linter.unusedVariables false
set_option linter.unusedSimpArgs false
namespace Go.Proofs.YtfkdailfcmnjlaaGreatDoor
open Go Go.RowKit
set_option maxRecDepth 100000

/-- Only builders and rows of bytes turn. -/
def WF (w w' : World) : Prop := ∀ (k : Nat) (cs : Array Value) (ty : TypeId) (fr : Nat × Nat), w.heap[k]? = some (.cells cs ty fr) → ty ≠ 5 → ty ≠ 157 → w'.heap[k]? = w.heap[k]?
theorem WF.refl (w : World) : WF w w := fun _ _ _ _ _ _ _ => rfl
theorem WF.trans {w w1 w2 : World} (h : WF w w1) (k : WF w1 w2) : WF w w2 := fun j cs ty fr hj h1 h2 => by
  have e := h j cs ty fr hj h1 h2
  exact (k j cs ty fr (e.trans hj) h1 h2).trans e
theorem WF.set {w : World} {b : Nat} {cs : Array Value} {fr : Nat × Nat} (hb : w.heap[b]? = some (.cells cs 157 fr)) (j : Nat) (v : Value) : WF w (w.setCell ⟨b, j, none⟩ v) := fun k cs' ty fr' hk h1 h2 => by
  refine Below.heap_setCell _ _ _ _ ?_
  simp only
  intro e
  rw [e, hb] at hk
  simp only [Option.some.injEq, Obj.cells.injEq] at hk
  exact h2 hk.2.1.symm
theorem WF.grown {w w' : World} {base n : Nat} {v : Value} {xs : List Value} (hr : w.ownsRow base 5 1 v n xs) (hg : w.grownBy w' v.ownBlock) : WF w w' := fun k cs ty fr hk h1 h2 => by
  refine hg.block k (lt_of_get hk) fun e => ?_
  rcases hr.2 with ⟨rfl, _⟩ | ⟨g, cap, cur, rfl, _, hg', _⟩
  · simp [Value.ownBlock] at e
  · simp [Value.ownBlock] at e
    rw [e, hg'] at hk
    simp only [Option.some.injEq, Obj.cells.injEq] at hk
    exact h1 hk.2.1.symm
end Go.Proofs.YtfkdailfcmnjlaaGreatDoor
