/-
  A part.
-/
import Derived.Test.YtfkdailfcmnjlaaGreatDoorAll12
import Derived.Test.YtfkdailfcmnjlaaGreatDoorRows
import Derived.ProofKit
import Derived.LaidMore
import Derived.OpenShut
import Derived.Stop.Joined
import Derived.Stop.LaidErr
set_option linter.all false
set_option maxHeartbeats 40000000
set_option maxRecDepth 1000000
namespace Go.Proofs.YtfkdailfcmnjlaaGreatDoor
open Go Go.RowKit Go.ChangeAt Go.ChangeShapes Go.WideShapes
theorem own:ownKnob Tryz.prog.godebug=none:=by kernel_rfl
theorem OE:Tryz.prog.globalNamed "gavel/words.spellings"=some 0:=by kernel_rfl
theorem OF:Tryz.prog.globalNamed "strconv.ErrRange"=some 4:=by kernel_rfl
theorem OG:(Tryz.prog.globals[0]?).map (·.type)=some 272:=by kernel_rfl
theorem OH:(Tryz.prog.globals[4]?).map (·.type)=some 165:=by kernel_rfl
theorem Ng:Tryz.prog.cellsOf 9=1:=by kernel_rfl
theorem OI:Tryz.prog.cellsOf 272=36:=by kernel_rfl
theorem OJ:Tryz.prog.underlying 272=some (.array 36 9):=by kernel_rfl
theorem CG:Rows.laid_gavel_words_spellings (H:=Unit)= .agg (cU.map λs=> .lit (.string s)):=by kernel_rfl
end Go.Proofs.YtfkdailfcmnjlaaGreatDoor
