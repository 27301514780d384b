/-
  A part.
-/
import Derived.Test.YtfkdailfcmnjlaaGreatDoorMeant16
import Derived.Deep.DeepCutAuto
set_option linter.unusedVariables false
set_option linter.unusedSimpArgs false
set_option maxHeartbeats 40000000
set_option maxRecDepth 1000000
namespace Go.Proofs.YtfkdailfcmnjlaaGreatDoor
open Go Go.RowKit
attribute [local go_sem ↓] Go.wp_at_zero Go.wp_at_succ
structure pn (w wx:World) (lb g1 g2 n m:Nat) (f1 f2:Nat→List UInt8×Int):Prop where
 bl:Below w.heap.size w wx
 p1:w.heap.size+1<g1
 p2:w.heap.size+1<g2
 p3:w.heap.size+1<lb
 n12:g1≠g2
 n13:g1≠lb
 n23:g2≠lb
 loan:wx.heap[lb]?=some (.cells #[.slice (some ⟨g1,0,none⟩) (n+8) (n+8),.slice (some ⟨g2,0,none⟩) (m+8) (m+8)] 106 (0,0))
 row1:jT wx g1 108 (n+8) f1
 row2:jT wx g2 110 (m+8) f2
variable {w z D E:World} {G n m:Nat} {I J O R:Nat→List UInt8×Int}
theorem pn.set {D E:Nat} (h:pn w z D E G n m I J) (j:Nat) (v:Value):pn w (z.setCell ⟨w.heap.size+1,j,none⟩ v) D E G n m I J:=by
 have O:=h.p1;have R:=h.p2;have U:=h.p3;exact⟨h.bl.setCell (by simp) _,h.p1,h.p2,h.p3,h.n12,h.n13,h.n23,(ZO _ _ _ _ (by simp;omega)).trans h.loan,h.row1.of_block (ZO _ _ _ _ (by simp;omega)),h.row2.of_block (ZO _ _ _ _ (by simp;omega))⟩
theorem pn.drew {w z:World} {D E G n m:Nat} {I J:Nat→List UInt8×Int} (h:pn w z D E G n m I J):pn w z.drew D E G n m I J:=
 ⟨h.bl.drew,h.p1,h.p2,h.p3,h.n12,h.n13,h.n23,h.loan,h.row1.of_block rfl,h.row2.of_block rfl⟩
theorem pn.below {I J:Nat} (h:pn w D G I J n m O R) (z:Below D.heap.size D E):pn w E G I J n m O R:=by
 obtain⟨Y,U,_⟩:=h.row1.blk;obtain⟨Z,V,_⟩:=h.row2.blk;exact⟨h.bl.trans (z.mono h.bl.size),h.p1,h.p2,h.p3,h.n12,h.n13,h.n23,(z.block _ (be h.loan)).trans h.loan,h.row1.of_block (z.block _ (be U)),h.row2.of_block (z.block _ (be V))⟩
def IL (l:List Nat):Prop:= ∀t∈l,t<4
def uF (l:List Nat):Prop:= ∀t∈l,1≤t∧t<4
end Go.Proofs.YtfkdailfcmnjlaaGreatDoor
