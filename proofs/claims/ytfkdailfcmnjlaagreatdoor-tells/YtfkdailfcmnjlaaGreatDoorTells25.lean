/-
  The law's loan of a state. Codes: how types are written as letters; small facts.
-/
import Derived.Test.YtfkdailfcmnjlaaGreatDoorTells01
import Derived.Test.YtfkdailfcmnjlaaGreatDoorTells02
import Derived.Test.YtfkdailfcmnjlaaGreatDoorTells04
import Derived.Test.YtfkdailfcmnjlaaGreatDoorTells05
import Derived.Test.YtfkdailfcmnjlaaGreatDoorTells06
import Derived.Test.YtfkdailfcmnjlaaGreatDoorTells07
import Derived.Test.YtfkdailfcmnjlaaGreatDoorTells08
import Derived.Test.YtfkdailfcmnjlaaGreatDoorTells09
import Derived.Test.YtfkdailfcmnjlaaGreatDoorTells10
import Derived.Test.YtfkdailfcmnjlaaGreatDoorTells11
import Derived.Test.YtfkdailfcmnjlaaGreatDoorTells12
import Derived.Test.YtfkdailfcmnjlaaGreatDoorTells13
import Derived.Test.YtfkdailfcmnjlaaGreatDoorTells14
import Derived.Test.YtfkdailfcmnjlaaGreatDoorTells15
import Derived.Test.YtfkdailfcmnjlaaGreatDoorTells16
import Derived.Test.YtfkdailfcmnjlaaGreatDoorTells17
import Derived.Test.YtfkdailfcmnjlaaGreatDoorTells18
import Derived.Test.YtfkdailfcmnjlaaGreatDoorTells19
import Derived.Test.YtfkdailfcmnjlaaGreatDoorTells20
import Derived.Test.YtfkdailfcmnjlaaGreatDoorTells21
import Derived.Test.YtfkdailfcmnjlaaGreatDoorTells22
import Derived.Test.YtfkdailfcmnjlaaGreatDoorTells23
import Derived.Test.YtfkdailfcmnjlaaGreatDoorTells24
import Derived.Test.YtfkdailfcmnjlaaGreatDoorLays
import Derived.Test.YtfkdailfcmnjlaaGreatDoorLays2
import Derived.Deep.DeepCutAuto
import Derived.Deep.RegionHeld3
import Derived.WalkKit
import Derived.Deep.QuietTactic
import Derived.BigQuiet
import Derived.WalkSpells
import GoSem.Op.String
import Derived.Deep.AppendLies
import Derived.Deep.DrawnRows
import Derived.Deep.RegionHeldLaw
import Derived.Deep.RegionLaw
import Derived.Lib.ParseIntBCases
import Derived.Deep.OwnRows
import Derived.Lib.LaidTab
import Derived.Lib.AppendIntMem
import Derived.Shelf.Strings.Builder1
import Derived.Laws.CopyOwn
set_option linter.unusedVariables false
set_option linter.unusedSimpArgs false
namespace Go.Proofs.YtfkdailfcmnjlaaGreatDoor
open Go Go.RowKit
set_option maxRecDepth 100000
attribute [local go_sem ↓] Go.wp_at_zero Go.wp_at_succ

/-- What the loan lies in. -/
structure LoanAt (w wx : World) (lb g1 g2 n m : Nat) (f1 f2 : Nat → List UInt8 × Int) : Prop where
  bl : Below w.heap.size w wx
  p1 : w.heap.size + 1 < g1
  p2 : w.heap.size + 1 < g2
  p3 : w.heap.size + 1 < lb
  n12 : g1 ≠ g2
  n13 : g1 ≠ lb
  n23 : g2 ≠ lb
  loan : wx.heap[lb]? = some (.cells #[.slice (some ⟨g1, 0, none⟩) (n + 8) (n + 8), .slice (some ⟨g2, 0, none⟩) (m + 8) (m + 8)] 106 (0, 0))
  row1 : PairRow wx g1 108 (n + 8) f1
  row2 : PairRow wx g2 110 (m + 8) f2
theorem LoanAt.set {w wx : World} {lb g1 g2 n m : Nat} {f1 f2 : Nat → List UInt8 × Int} (h : LoanAt w wx lb g1 g2 n m f1 f2) (j : Nat) (v : Value) : LoanAt w (wx.setCell ⟨w.heap.size + 1, j, none⟩ v) lb g1 g2 n m f1 f2 := by
  have e1 := h.p1
  have e2 := h.p2
  have e3 := h.p3
  exact ⟨h.bl.setCell (by simp) _, h.p1, h.p2, h.p3, h.n12, h.n13, h.n23, (Below.heap_setCell _ _ _ _ (by simp; omega)).trans h.loan, h.row1.of_block (Below.heap_setCell _ _ _ _ (by simp; omega)), h.row2.of_block (Below.heap_setCell _ _ _ _ (by simp; omega))⟩
theorem LoanAt.drew {w wx : World} {lb g1 g2 n m : Nat} {f1 f2 : Nat → List UInt8 × Int} (h : LoanAt w wx lb g1 g2 n m f1 f2) : LoanAt w wx.drew lb g1 g2 n m f1 f2 :=
  ⟨h.bl.drew, h.p1, h.p2, h.p3, h.n12, h.n13, h.n23, h.loan, h.row1.of_block rfl, h.row2.of_block rfl⟩
theorem LoanAt.below {w wx wy : World} {lb g1 g2 n m : Nat} {f1 f2 : Nat → List UInt8 × Int} (h : LoanAt w wx lb g1 g2 n m f1 f2) (hb : Below wx.heap.size wx wy) : LoanAt w wy lb g1 g2 n m f1 f2 := by
  obtain ⟨cs1, hc1, _⟩ := h.row1.blk
  obtain ⟨cs2, hc2, _⟩ := h.row2.blk
  exact ⟨h.bl.trans (hb.mono h.bl.size), h.p1, h.p2, h.p3, h.n12, h.n13, h.n23, (hb.block _ (lt_of_get h.loan)).trans h.loan, h.row1.of_block (hb.block _ (lt_of_get hc1)), h.row2.of_block (hb.block _ (lt_of_get hc2))⟩
end Go.Proofs.YtfkdailfcmnjlaaGreatDoor

namespace Go.Proofs.YtfkdailfcmnjlaaGreatDoor
open Go Go.RowKit
set_option maxRecDepth 100000

/-- Types are below four; a stack has none of those that are not known. -/
def Tys (l : List Nat) : Prop := ∀ t ∈ l, t < 4
def Tys1 (l : List Nat) : Prop := ∀ t ∈ l, 1 ≤ t ∧ t < 4
end Go.Proofs.YtfkdailfcmnjlaaGreatDoor
