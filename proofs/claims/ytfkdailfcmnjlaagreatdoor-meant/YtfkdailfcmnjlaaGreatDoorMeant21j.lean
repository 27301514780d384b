/-
  A part.
-/
import Derived.Test.YtfkdailfcmnjlaaGreatDoorMeant21e
import Derived.Test.YtfkdailfcmnjlaaGreatDoorMeant21f
import Derived.Test.YtfkdailfcmnjlaaGreatDoorMeant21g
import Derived.Test.YtfkdailfcmnjlaaGreatDoorMeant21h
import Derived.Test.YtfkdailfcmnjlaaGreatDoorMeant21i
import Derived.Shelf.Abstract
set_option linter.unusedVariables false
set_option linter.unusedSimpArgs false
set_option maxHeartbeats 40000000
set_option maxRecDepth 1000000
set_option maxHeartbeats 40000000
set_option maxRecDepth 1000000
namespace Go.Proofs.YtfkdailfcmnjlaaGreatDoor
open Go Go.RowKit Tryz
attribute [local go_sem ↓] Go.wp_at_zero Go.wp_at_succ
attribute [local go_sem ↓] mI
variable {k:Nat}
theorem If {c:jV} (z:jC c) (J:k<9) (w:World):Calls prog 71 #[.agg (je c),Iq k] w fun e w'=>e= .returned (.tuple #[Iq ((qS c).getD k 0),S (dL.getD k [])])∧Below w.heap.size w w':=by
 have O:k=0∨k=1∨k=2∨k=3∨k=4∨k=5∨k=6∨k=7∨k=8:=by omega
 have R:((eG c.sn:Nat):Int)==((eG c.tg:Nat):Int)↔(eG c.sn==eG c.tg)=true:=by simp;omega
 refine EO (cs:=je c) (show Hid _ from rfl) (ns c.sn) (ns c.tg) rfl rfl rfl rfl rfl rfl rfl rfl rfl rfl rfl rfl rfl rfl (fun w=>xK z.sn w) (fun w=>xK z.tg w) (fun w=>FL z.sn w) (fun w=>FL z.tg w) (fun w=>xw c.wa w) (fun w=>qo z.sn w) (fun w=>qo z.tg w) (fun b w=>jr b w) (fun w=>jr c.op w) J w _ ?_
 intro w' U;refine⟨?_,U⟩;have e:dq (((eG c.sn:Nat):Int)==((eG c.tg:Nat):Int))=dq (eG c.sn==eG c.tg):=by
  congr 1
  rw[aaH];exact R
 rw[e];rcases O with rfl|rfl|rfl|rfl|rfl|rfl|rfl|rfl|rfl<;>rfl
end Go.Proofs.YtfkdailfcmnjlaaGreatDoor
namespace Go.Proofs.YtfkdailfcmnjlaaGreatDoor
open Go Go.RowKit Tryz
attribute [local go_sem ↓] Go.wp_at_zero Go.wp_at_succ
variable {b k kd:Nat} {w w':World} {c:jV} {z:UInt8}
theorem NL (z:kd≤9):nT kd kd:=by
 have h:kd=0∨kd=1∨kd=2∨kd=3∨kd=4∨kd=5∨kd=6∨kd=7∨kd=8∨kd=9:=by omega
 rcases h with rfl|rfl|rfl|rfl|rfl|rfl|rfl|rfl|rfl|rfl
 ·exact @OW
 ·exact @OX
 ·exact @OY
 ·exact @OZ
 ·exact @O0
 ·exact @O1
 ·exact @O3
 ·exact @O4
 ·exact @O5
 ·exact @O6
end Go.Proofs.YtfkdailfcmnjlaaGreatDoor
