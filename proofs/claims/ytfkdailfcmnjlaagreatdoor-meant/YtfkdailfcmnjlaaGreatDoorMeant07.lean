/-
  A part.
-/
import Derived.Test.YtfkdailfcmnjlaaGreatDoorMeant06
import Derived.Deep.RegionHeldLaw
set_option linter.unusedVariables false
set_option linter.unusedSimpArgs false
set_option maxHeartbeats 40000000
set_option maxRecDepth 1000000
namespace Go.Proofs.YtfkdailfcmnjlaaGreatDoor
open Go Go.RowKit
attribute [local go_sem ↓] Go.wp_at_zero Go.wp_at_succ
theorem RS.next {B rb gl cl:Nat} {ts:List Tok} {s:St} {w:World} (h:RS B rb gl cl ts s w) (z:s.i+1<ts.length):RS B rb gl cl ts {s with i:=s.i+1} (w.setCell ⟨rb,1,none⟩ (Iq ((s.i:Int)+1))):=
 h.set 1 _ _ (by simp) rfl rfl z (by have:=h.few;simp;omega)
end Go.Proofs.YtfkdailfcmnjlaaGreatDoor
