/-
  A part.
-/
import Derived.Test.YtfkdailfcmnjlaaGreatDoorMeant10
import Derived.Test.YtfkdailfcmnjlaaGreatDoorRows
import Derived.ProofKit
import Derived.LaidMore
import Derived.OpenShut
import Derived.Stop.Joined
import Derived.Stop.LaidErr
set_option linter.unusedVariables false
set_option linter.unusedSimpArgs false
set_option maxHeartbeats 40000000
set_option maxRecDepth 1000000
namespace Go.Proofs.YtfkdailfcmnjlaaGreatDoor
open Go Go.ChangeShapes Go.WideShapes Go.ChangeAt Go.RowKit
theorem own:ownKnob Tryz.prog.godebug=none:=by kernel_rfl
theorem NW:Tryz.prog.globalNamed "gavel/words.spellings"=some 0:=by kernel_rfl
theorem NX:Tryz.prog.globalNamed "strconv.ErrRange"=some 4:=by kernel_rfl
theorem NY:(Tryz.prog.globals[0]?).map (·.type)=some 272:=by kernel_rfl
theorem NZ:(Tryz.prog.globals[4]?).map (·.type)=some 165:=by kernel_rfl
theorem Mo:Tryz.prog.cellsOf 9=1:=by kernel_rfl
theorem N2:Tryz.prog.cellsOf 272=36:=by kernel_rfl
theorem N3:Tryz.prog.underlying 272=some (.array 36 9):=by kernel_rfl
theorem CV:Rows.laid_gavel_words_spellings (H:=Unit)= .agg (dI.map fun s=> .lit (.string s)):=by kernel_rfl
end Go.Proofs.YtfkdailfcmnjlaaGreatDoor
