/-
  A part.
-/
import Derived.Test.YtfkdailfcmnjlaaGreatDoorMeant10
import Derived.Shelf.Strings.Builder1
set_option linter.unusedVariables false
set_option linter.unusedSimpArgs false
set_option maxHeartbeats 40000000
set_option maxRecDepth 1000000
namespace Go.Proofs.YtfkdailfcmnjlaaGreatDoor
open Go Go.RowKit
def WF (w w':World):Prop:= ∀(k:Nat) (cs:Array Value) (ty:TypeId) (fr:Nat×Nat),w.heap[k]?=some (.cells cs ty fr)→ty≠5→ty≠157→w'.heap[k]?=w.heap[k]?
theorem WF.refl (w:World):WF w w:=fun _ _ _ _ _ _ _=>rfl
theorem WF.trans {w z D:World} (h:WF w z) (k:WF z D):WF w D:=fun j cs ty fr E G I=>by
 have e:=h j cs ty fr E G I;exact(k j cs ty fr (e.trans E) G I).trans e
theorem WF.set {w:World} {b:Nat} {cs:Array Value} {fr:Nat×Nat} (D:w.heap[b]?=some (.cells cs 157 fr)) (j:Nat) (v:Value):WF w (w.setCell ⟨b,j,none⟩ v):=fun k G ty I z J E=>by
 refine ZO _ _ _ _ ?_;simp only;intro e;rw[e,D] at z;simp only[ZR,aa8] at z;exact E z.2.1.symm
theorem WF.grown {w w':World} {base n:Nat} {v:Value} {xs:List Value} (E:w.ownsRow base 5 1 v n xs) (G:w.grownBy w' v.ownBlock):WF w w':=fun k cs ty fr z I O=>by
 refine G.block k (be z) fun e=>?_
 rcases E.2 with⟨rfl,_⟩|⟨g,cap,J,rfl,_,D,_⟩
 ·simp[Value.ownBlock] at e
 ·simp[Value.ownBlock] at e
  rw[e,D] at z;simp only[ZR,aa8] at z;exact I z.2.1.symm
end Go.Proofs.YtfkdailfcmnjlaaGreatDoor
