/-
  A part.
-/
import Derived.Test.YtfkdailfcmnjlaaGreatDoorMeant21m
import Derived.Shelf.Abstract
set_option linter.unusedVariables false
set_option linter.unusedSimpArgs false
set_option maxHeartbeats 40000000
set_option maxRecDepth 1000000
set_option maxHeartbeats 40000000
set_option maxRecDepth 1000000
namespace Go.Proofs.YtfkdailfcmnjlaaGreatDoor
open Go Go.RowKit Tryz
attribute [local go_sem ↓] Go.wp_at_zero Go.wp_at_succ
variable {b p k j kd:Nat} {w w':World} {v:Nat→Value} {l:Nat→List Mk} {c:jV} {n:Int} {V:Value} {z D:UInt8}
theorem Ml (V:jC c) (I:dG n) (Y:kd≤5) (J:TI b w p v l) (O:b≤w.heap.size) (R:rN (qS c) l) (U:∀j,j<3→(l j).length≤1000):
 Calls prog 37 #[Pq p,.agg (je c),Iq kd,Iq n] w (vT c b p w l):=by
 have h:kd=0∨kd=1∨kd=2∨3≤kd:=by omega
 rcases h with rfl|rfl|rfl|h3
 ·refine(Mi (c:=c) I J O (U 0 (by decide))).mono ?_
  rintro e w' ⟨rfl,k,z,D,E,G⟩;exact⟨rfl,z,_,E,R.put (JX D),qU _,G⟩
 ·refine(Mj (c:=c) I J O (U 1 (by decide))).mono ?_
  rintro e w' ⟨rfl,k,z,D,E,G⟩;exact⟨rfl,z,_,E,R.put (zn D),qU _,G⟩
 ·refine(Ii (c:=c) I J O (U 2 (by decide))).mono ?_
  rintro e w' ⟨rfl,k,z,D,E,G⟩;exact⟨rfl,z,_,E,R.put (CT D),qU _,G⟩
 ·refine(Ih V I h3 Y J O U).mono ?_
  rintro e w' ⟨rfl,k,j,z,D,rfl,E,G⟩;exact⟨rfl,z,_,E,R.put (KG V D),qU _,G⟩
end Go.Proofs.YtfkdailfcmnjlaaGreatDoor
