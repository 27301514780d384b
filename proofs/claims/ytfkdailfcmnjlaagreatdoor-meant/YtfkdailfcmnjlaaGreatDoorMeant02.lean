/-
  A part.
-/
import Derived.Test.YtfkdailfcmnjlaaGreatDoorMeant01
import Derived.Test.YtfkdailfcmnjlaaGreatDoorProg
import Derived.WalkKit
import Derived.Deep.QuietTactic
import Derived.BigQuiet
import Derived.WalkSpells
set_option linter.unusedVariables false
set_option linter.unusedSimpArgs false
set_option maxHeartbeats 40000000
set_option maxRecDepth 1000000
namespace Go.Proofs.YtfkdailfcmnjlaaGreatDoor
open Go Go.RowKit
abbrev S (l:List UInt8):Value:= .string ⟨l.toArray⟩
theorem lQ {a b:Bool} (h:a=b):Ending.returned (.bool a)= .returned (.bool b):=by rw[h]
theorem eV {k:IntKind} {a b:Int} (h:a=b):Ending.returned (.int k a)= .returned (.int k b):=by rw[h]
end Go.Proofs.YtfkdailfcmnjlaaGreatDoor
