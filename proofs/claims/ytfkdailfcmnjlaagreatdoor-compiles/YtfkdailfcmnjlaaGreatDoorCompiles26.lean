/-
  A part.
-/
import Derived.Test.YtfkdailfcmnjlaaGreatDoorCompiles23
import Derived.Test.YtfkdailfcmnjlaaGreatDoorCompiles25
set_option linter.all false
set_option maxHeartbeats 40000000
set_option maxRecDepth 1000000
namespace Go.Proofs.YtfkdailfcmnjlaaGreatDoor
open Go Go.RowKit
attribute [local go_sem ↓] Go.wp_at_zero Go.wp_at_succ
section
variable {bs : Nat}
variable {L k}
theorem Fh {xs:List dk} (h:k<xs.length):ox L (xs.take (k+1))=ox L (xs.take k)++yH L (xs.getD k dQ):=by
 unfold ox;rw[qu h dQ,List.flatMap_append];simp
end
end Go.Proofs.YtfkdailfcmnjlaaGreatDoor
