/-
  A part.
-/
import Derived.Test.YtfkdailfcmnjlaaGreatDoorCompiles15
import Derived.Shelf.Strings.Builder1
set_option linter.all false
set_option maxHeartbeats 40000000
set_option maxRecDepth 1000000
namespace Go.Proofs.YtfkdailfcmnjlaaGreatDoor
open Go Go.RowKit
variable {w b cs fr}
def WF (w w':World):Prop:= ∀(k:Nat) (cs:Array Value) (ty:TypeId) (fr:Nat×Nat),w.heap[k]?=some (.cells cs ty fr)->ty≠5->ty≠157->w'.heap[k]?=w.heap[k]?
theorem WF.refl (w:World):WF w w:=λ_ _ _ _ _ _ _=>rfl
theorem WF.trans {w z D} (h:WF w z) (k:WF z D):WF w D:=λj cs ty fr E G I=>by
 have e:=h j cs ty fr E G I;exact(k j cs ty fr (e.trans E) G I).trans e
theorem WF.set (D:w.heap[b]?=some (.cells cs 157 fr)) (j) (v):WF w (w.setCell ⟨b,j,none⟩ v):=λk G ty I z J E=>by
 refine RQ _ _ _ _ ?_;simp only;intro e;rw[e,D] at z;simp only[R6,Ty] at z;exact E z.2.1.symm
theorem WF.grown {w w' base n v xs} (E:w.ownsRow base 5 1 v n xs) (G:w.grownBy w' v.ownBlock):WF w w':=λk cs ty fr z I O=>by
 refine G.block k (cq z) λe=>?_
 rcases E.2 with⟨rfl,_⟩|⟨g,cap,J,rfl,_,D,_⟩
 ·simp[Value.ownBlock] at e
 simp[Value.ownBlock] at e;rw[e,D] at z;simp only[R6,Ty] at z;exact I z.2.1.symm
end Go.Proofs.YtfkdailfcmnjlaaGreatDoor
