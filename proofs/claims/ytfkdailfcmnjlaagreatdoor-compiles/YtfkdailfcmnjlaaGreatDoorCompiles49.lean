/-
  A part.
-/
import Derived.Test.YtfkdailfcmnjlaaGreatDoorHp
import Derived.Test.YtfkdailfcmnjlaaGreatDoorRows
import Derived.ProofKit
import Derived.LaidMore
import Derived.OpenShut
import Derived.Stop.Joined
set_option linter.all false
set_option maxRecDepth 1000000
namespace Go.Proofs.YtfkdailfcmnjlaaGreatDoor
open Go Go.ChangeShapes Go.WideShapes Go.ChangeAt Go.WideMaps Go.WideElems Go.RowKit
set_option maxHeartbeats 40000000 in
theorem vA:joinedFacts Tryz.prog 8 Tryz.f8 Rows.compilesSpec Rows.compilesRow=true:=by
 unfold joinedFacts
 simp only[TA]
 and_intros
 all_goals as_aux_lemma=>kernel_rfl
end Go.Proofs.YtfkdailfcmnjlaaGreatDoor
