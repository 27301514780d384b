/-
  The law's loan of a state. The law's loan comes back. Codes: how types are written as letters; small facts. The document's small functions of codes: size, bound, takes.
-/
import Derived.Test.YtfkdailfcmnjlaaGreatDoorCompiles01
import Derived.Test.YtfkdailfcmnjlaaGreatDoorCompiles02
import Derived.Test.YtfkdailfcmnjlaaGreatDoorCompiles04
import Derived.Test.YtfkdailfcmnjlaaGreatDoorCompiles05
import Derived.Test.YtfkdailfcmnjlaaGreatDoorCompiles06
import Derived.Test.YtfkdailfcmnjlaaGreatDoorCompiles07
import Derived.Test.YtfkdailfcmnjlaaGreatDoorCompiles08
import Derived.Test.YtfkdailfcmnjlaaGreatDoorCompiles09
import Derived.Test.YtfkdailfcmnjlaaGreatDoorCompiles10
import Derived.Test.YtfkdailfcmnjlaaGreatDoorCompiles11
import Derived.Test.YtfkdailfcmnjlaaGreatDoorCompiles12
import Derived.Test.YtfkdailfcmnjlaaGreatDoorCompiles13
import Derived.Test.YtfkdailfcmnjlaaGreatDoorCompiles14
import Derived.Test.YtfkdailfcmnjlaaGreatDoorCompiles15
import Derived.Test.YtfkdailfcmnjlaaGreatDoorCompiles16
import Derived.Test.YtfkdailfcmnjlaaGreatDoorCompiles17
import Derived.Test.YtfkdailfcmnjlaaGreatDoorCompiles18
import Derived.Test.YtfkdailfcmnjlaaGreatDoorCompiles19
import Derived.Test.YtfkdailfcmnjlaaGreatDoorCompiles20
import Derived.Test.YtfkdailfcmnjlaaGreatDoorCompiles21
import Derived.Test.YtfkdailfcmnjlaaGreatDoorCompiles22
import Derived.Test.YtfkdailfcmnjlaaGreatDoorCompiles23
import Derived.Test.YtfkdailfcmnjlaaGreatDoorCompiles24
import Derived.Test.YtfkdailfcmnjlaaGreatDoorCompiles28
import Derived.Test.YtfkdailfcmnjlaaGreatDoorCompiles29
import Derived.Test.YtfkdailfcmnjlaaGreatDoorCompiles30
import Derived.Test.YtfkdailfcmnjlaaGreatDoorCompiles31
import Derived.Test.YtfkdailfcmnjlaaGreatDoorCompiles32
import Derived.Test.YtfkdailfcmnjlaaGreatDoorCompiles34
import Derived.Test.YtfkdailfcmnjlaaGreatDoorLays
import Derived.Test.YtfkdailfcmnjlaaGreatDoorLays2
import Derived.Deep.DeepCutAuto
import Derived.Deep.RegionHeld3
import Derived.WalkKit
import Derived.Deep.QuietTactic
import Derived.BigQuiet
import Derived.WalkSpells
import GoSem.Op.String
import Derived.Deep.AppendLies
import Derived.Deep.DrawnRows
import Derived.Deep.RegionHeldLaw
import Derived.Deep.RegionLaw
import Derived.Lib.ParseIntBCases
import Derived.Deep.OwnRows
import Derived.Lib.LaidTab
import Derived.Lib.AppendIntMem
import Derived.Shelf.Strings.Builder1
import Derived.Laws.CopyOwn
set_option linter.unusedVariables false
set_option linter.unusedSimpArgs false
namespace Go.Proofs.YtfkdailfcmnjlaaGreatDoor
open Go Go.RowKit
set_option maxRecDepth 100000
attribute [local go_sem ↓] Go.wp_at_zero Go.wp_at_succ

/-- What the loan lies in. -/
structure LoanAt (w wx : World) (lb g1 g2 n m : Nat) (f1 f2 : Nat → List UInt8 × Int) : Prop where
  bl : Below w.heap.size w wx
  p1 : w.heap.size + 1 < g1
  p2 : w.heap.size + 1 < g2
  p3 : w.heap.size + 1 < lb
  n12 : g1 ≠ g2
  n13 : g1 ≠ lb
  n23 : g2 ≠ lb
  loan : wx.heap[lb]? = some (.cells #[.slice (some ⟨g1, 0, none⟩) (n + 8) (n + 8), .slice (some ⟨g2, 0, none⟩) (m + 8) (m + 8)] 106 (0, 0))
  row1 : PairRow wx g1 108 (n + 8) f1
  row2 : PairRow wx g2 110 (m + 8) f2
theorem LoanAt.set {w wx : World} {lb g1 g2 n m : Nat} {f1 f2 : Nat → List UInt8 × Int} (h : LoanAt w wx lb g1 g2 n m f1 f2) (j : Nat) (v : Value) : LoanAt w (wx.setCell ⟨w.heap.size + 1, j, none⟩ v) lb g1 g2 n m f1 f2 := by
  have e1 := h.p1
  have e2 := h.p2
  have e3 := h.p3
  exact ⟨h.bl.setCell (by simp) _, h.p1, h.p2, h.p3, h.n12, h.n13, h.n23, (Below.heap_setCell _ _ _ _ (by simp; omega)).trans h.loan, h.row1.of_block (Below.heap_setCell _ _ _ _ (by simp; omega)), h.row2.of_block (Below.heap_setCell _ _ _ _ (by simp; omega))⟩
theorem LoanAt.drew {w wx : World} {lb g1 g2 n m : Nat} {f1 f2 : Nat → List UInt8 × Int} (h : LoanAt w wx lb g1 g2 n m f1 f2) : LoanAt w wx.drew lb g1 g2 n m f1 f2 :=
  ⟨h.bl.drew, h.p1, h.p2, h.p3, h.n12, h.n13, h.n23, h.loan, h.row1.of_block rfl, h.row2.of_block rfl⟩
theorem LoanAt.below {w wx wy : World} {lb g1 g2 n m : Nat} {f1 f2 : Nat → List UInt8 × Int} (h : LoanAt w wx lb g1 g2 n m f1 f2) (hb : Below wx.heap.size wx wy) : LoanAt w wy lb g1 g2 n m f1 f2 := by
  obtain ⟨cs1, hc1, _⟩ := h.row1.blk
  obtain ⟨cs2, hc2, _⟩ := h.row2.blk
  exact ⟨h.bl.trans (hb.mono h.bl.size), h.p1, h.p2, h.p3, h.n12, h.n13, h.n23, (hb.block _ (lt_of_get h.loan)).trans h.loan, h.row1.of_block (hb.block _ (lt_of_get hc1)), h.row2.of_block (hb.block _ (lt_of_get hc2))⟩
theorem loan_made (w : World) (n m lb g1 g2 : Nat) {st z : Array Value} {o1 o2 : Obj} (h : (g1 = w.heap.size + 1 + 1 ∧ g2 = w.heap.size + 1 + 1 + 1 ∧ lb = w.heap.size + 1 + 1 + 1 + 1 ∧ o1 = .cells (madeCells #[.string ⟨#[]⟩, .int .i64 0] ((n + 8) * 2)) 108 (0, 0) ∧ o2 = .cells (madeCells #[.string ⟨#[]⟩, .int .i64 0] ((m + 8) * 2)) 110 (0, 0)) ∨ (g1 = w.heap.size + 1 + 1 + 1 ∧ g2 = w.heap.size + 1 + 1 ∧ lb = w.heap.size + 1 + 1 + 1 + 1 ∧ o2 = .cells (madeCells #[.string ⟨#[]⟩, .int .i64 0] ((n + 8) * 2)) 108 (0, 0) ∧ o1 = .cells (madeCells #[.string ⟨#[]⟩, .int .i64 0] ((m + 8) * 2)) 110 (0, 0))) :
    LoanAt w ((((((w.alloc (.cells st 50 (0, 0))).alloc (.cells z 50 (0, 0))).alloc o1).alloc o2).alloc (.cells #[.slice (some ⟨g1, 0, none⟩) (n + 8) (n + 8), .slice (some ⟨g2, 0, none⟩) (m + 8) (m + 8)] 106 (0, 0))).drew) lb g1 g2 n m (fun _ => ([], 0)) (fun _ => ([], 0)) ∧
    ((((((w.alloc (.cells st 50 (0, 0))).alloc (.cells z 50 (0, 0))).alloc o1).alloc o2).alloc (.cells #[.slice (some ⟨g1, 0, none⟩) (n + 8) (n + 8), .slice (some ⟨g2, 0, none⟩) (m + 8) (m + 8)] 106 (0, 0))).drew).heap[w.heap.size]? = some (.cells st 50 (0, 0)) ∧
    ((((((w.alloc (.cells st 50 (0, 0))).alloc (.cells z 50 (0, 0))).alloc o1).alloc o2).alloc (.cells #[.slice (some ⟨g1, 0, none⟩) (n + 8) (n + 8), .slice (some ⟨g2, 0, none⟩) (m + 8) (m + 8)] 106 (0, 0))).drew).heap[w.heap.size + 1]? = some (.cells z 50 (0, 0)) := by
  generalize hol : (Obj.cells #[.slice (some ⟨g1, 0, none⟩) (n + 8) (n + 8), .slice (some ⟨g2, 0, none⟩) (m + 8) (m + 8)] 106 (0, 0)) = ol
  have b0 : ∀ k, k < w.heap.size + 1 + 1 → (((((w.alloc (.cells st 50 (0, 0))).alloc (.cells z 50 (0, 0))).alloc o1).alloc o2).alloc ol).drew.heap[k]? = ((w.alloc (.cells st 50 (0, 0))).alloc (.cells z 50 (0, 0))).heap[k]? := fun k hk => by
    show (((((w.alloc (.cells st 50 (0, 0))).alloc (.cells z 50 (0, 0))).alloc o1).alloc o2).alloc ol).heap[k]? = _
    rw [Below.heap_alloc _ _ _ (by simp; omega), Below.heap_alloc _ _ _ (by simp; omega), Below.heap_alloc _ _ _ (by simp; omega)]
  have e1 : (((((w.alloc (.cells st 50 (0, 0))).alloc (.cells z 50 (0, 0))).alloc o1).alloc o2).alloc ol).drew.heap[w.heap.size + 1 + 1]? = some o1 := by
    show (((((w.alloc (.cells st 50 (0, 0))).alloc (.cells z 50 (0, 0))).alloc o1).alloc o2).alloc ol).heap[_]? = _
    rw [Below.heap_alloc _ _ _ (by simp), Below.heap_alloc _ _ _ (by simp)]
    have e := heap_alloc_new ((w.alloc (.cells st 50 (0, 0))).alloc (.cells z 50 (0, 0))) o1; simp only [World.size_alloc] at e; exact e
  have e2 : (((((w.alloc (.cells st 50 (0, 0))).alloc (.cells z 50 (0, 0))).alloc o1).alloc o2).alloc ol).drew.heap[w.heap.size + 1 + 1 + 1]? = some o2 := by
    show (((((w.alloc (.cells st 50 (0, 0))).alloc (.cells z 50 (0, 0))).alloc o1).alloc o2).alloc ol).heap[_]? = _
    rw [Below.heap_alloc _ _ _ (by simp)]
    have e := heap_alloc_new (((w.alloc (.cells st 50 (0, 0))).alloc (.cells z 50 (0, 0))).alloc o1) o2; simp only [World.size_alloc] at e; exact e
  have e3 : (((((w.alloc (.cells st 50 (0, 0))).alloc (.cells z 50 (0, 0))).alloc o1).alloc o2).alloc ol).drew.heap[w.heap.size + 1 + 1 + 1 + 1]? = some ol := by
    have e := heap_alloc_new ((((w.alloc (.cells st 50 (0, 0))).alloc (.cells z 50 (0, 0))).alloc o1).alloc o2) ol; simp only [World.size_alloc] at e; exact e
  have hB : Below w.heap.size w (((((w.alloc (.cells st 50 (0, 0))).alloc (.cells z 50 (0, 0))).alloc o1).alloc o2).alloc ol).drew := ((((((Below.refl _ _).alloc (Nat.le_refl _) _).alloc (by simp) _).alloc (by simp; omega) _).alloc (by simp; omega) _).alloc (by simp; omega) _).drew
  have hs : (((((w.alloc (.cells st 50 (0, 0))).alloc (.cells z 50 (0, 0))).alloc o1).alloc o2).alloc ol).drew.heap[w.heap.size]? = some (.cells st 50 (0, 0)) := by
    rw [b0 _ (by omega), Below.heap_alloc _ _ _ (by simp)]; exact heap_alloc_new w _
  have hz : (((((w.alloc (.cells st 50 (0, 0))).alloc (.cells z 50 (0, 0))).alloc o1).alloc o2).alloc ol).drew.heap[w.heap.size + 1]? = some (.cells z 50 (0, 0)) := by
    rw [b0 _ (by omega)]
    have e := heap_alloc_new (w.alloc (.cells st 50 (0, 0))) (.cells z 50 (0, 0)); rw [World.size_alloc] at e; exact e
  refine ⟨?_, hs, hz⟩
  rcases h with ⟨rfl, rfl, rfl, rfl, rfl⟩ | ⟨rfl, rfl, rfl, rfl, rfl⟩
  · exact ⟨hB, by omega, by omega, by omega, by omega, by omega, by omega, e3.trans (by rw [hol]), made_pair e1, made_pair e2⟩
  · exact ⟨hB, by omega, by omega, by omega, by omega, by omega, by omega, e3.trans (by rw [hol]), made_pair e2, made_pair e1⟩
set_option maxHeartbeats 4000000 in
theorem lend_any {lv mv : Value} (s : Stt) (w : World) (h1 : PairsAt lv s.levels w) (h2 : PairsAt mv s.members w) (hl : s.levels.length ≤ 5900000000000) (hm : s.members.length ≤ 5900000000000) :
    Calls Tryz.prog 17 #[sttV lv mv s] w fun en w' => ∃ lb g1 g2, en = .returned (.tuple #[.pointer (some ⟨lb, 0, none⟩), .agg #[.slice (some ⟨g1, 0, none⟩) s.levels.length (s.levels.length + 8), .int .i64 s.dflt, .slice (some ⟨g2, 0, none⟩) s.members.length (s.members.length + 8), .bool s.open_]]) ∧ LoanAt w w' lb g1 g2 s.levels.length s.members.length (entL s.levels 8) (entL s.members 8) := by
  unfold sttV
  obtain ⟨_, a1, c1, rfl, hc1⟩ := h1
  obtain ⟨_, a2, c2, rfl, hc2⟩ := h2
  obtain ⟨ls, df, ms, op⟩ := s
  simp only [] at *
  have hmk1 := run_make_wide (P := Tryz.prog) 47 108 (.agg #[.string ⟨#[]⟩, .int .i64 0]) 2 24 Tryz.underlying47 info_level .i64 .i64 (ls.length + 8) (by omega) (by omega)
  have hmk2 := run_make_wide (P := Tryz.prog) 48 110 (.agg #[.string ⟨#[]⟩, .int .i64 0]) 2 24 Tryz.underlying48 info_member .i64 .i64 (ms.length + 8) (by omega) (by omega)
  have q1 : ((ls.length + 8 : Nat) : Int) = (ls.length : Int) + 8 := by omega
  have q2 : ((ms.length + 8 : Nat) : Int) = (ms.length : Int) + 8 := by omega
  rw [q1] at hmk1
  rw [q2] at hmk2
  clear q1 q2
  have hst : ∀ j, ((w.alloc (.cells #[.slice a1 ls.length c1, .int .i64 df, .slice a2 ms.length c2, .bool op] 50)).alloc (.cells #[.slice none 0 0, .int .i64 0, .slice none 0 0, .bool false] 50)).cell? ⟨w.heap.size, j, none⟩ = (#[.slice a1 ls.length c1, .int .i64 df, .slice a2 ms.length c2, .bool op] : Array Value)[j]? := fun j => by
    rw [cell_of_row _ w.heap.size j _ _ _ (by rw [Below.heap_alloc _ _ _ (by simp)]; exact heap_alloc_new w _)]
  have s0 := hst 0
  have s1 := hst 1
  have s2 := hst 2
  have s3 := hst 3
  clear hst
  simp only [List.getElem?_toArray, List.getElem?_cons_zero, List.getElem?_cons_succ] at s0 s1 s2 s3
  have HC1 : Hid _ := hc1
  have HC2 : Hid _ := hc2
  clear hc1 hc2
  go_enter Tryz.func17, Tryz.ntmps17
  go_wp2_with fail
  go_cut [4] (fun lp wx => ∃ lb g1 g2, lp = .pointer (some ⟨lb, 0, none⟩) ∧ LoanAt w wx lb g1 g2 ls.length ms.length (fun _ => ([], 0)) (fun _ => ([], 0)) ∧ wx.heap[w.heap.size]? = some (.cells #[.slice a1 ls.length c1, .int .i64 df, .slice a2 ms.length c2, .bool op] 50 (0, 0)) ∧ wx.heap[w.heap.size + 1]? = some (.cells #[.slice none 0 0, .int .i64 0, .slice none 0 0, .bool false] 50 (0, 0)))
  case first =>
    go_region
    all_goals go_wp2_with fail
    all_goals go_meet
    · refine ⟨w.heap.size + 1 + 1 + 1 + 1, w.heap.size + 1 + 1, w.heap.size + 1 + 1 + 1, rfl, ?_⟩
      exact loan_made w _ _ _ _ _ (.inl ⟨rfl, rfl, rfl, rfl, rfl⟩)
    · refine ⟨w.heap.size + 1 + 1 + 1 + 1, w.heap.size + 1 + 1 + 1, w.heap.size + 1 + 1, rfl, ?_⟩
      exact loan_made w _ _ _ _ _ (.inr ⟨rfl, rfl, rfl, rfl, rfl⟩)
  case rest =>
    obtain ⟨lb, g1, g2, rfl, hLo, hS, hZ⟩ := hcut
    go_wp2_with fail
    have l0 : wc.cell? ⟨lb, 0, none⟩ = _ := cell_of_row wc lb 0 _ _ _ hLo.loan
    have t0 : wc.cell? ⟨w.heap.size, 0, none⟩ = _ := cell_of_row wc w.heap.size 0 _ _ _ hS
    simp only [List.getElem?_toArray, List.getElem?_cons_zero, List.getElem?_cons_succ] at l0 t0
    have hth := hLo.row1.there (n := (pcells ls).length) (by rw [pcells_len]; omega)
    have hsrc : 0 < (pcells ls).length → ∃ ad, a1 = some ad ∧ ∀ j v, (pcells ls)[j]? = some v → wc.cell? (ad.add j) = some v := pcells_src fun i hi => by
      obtain ⟨b, o, e, x0, x1, x2⟩ := HC1.out i hi
      exact ⟨b, o, e, by rw [hLo.bl.cell (p := ⟨b, o + i * 2, none⟩) (World.block_lt_of_cell? w _ x0)]; exact x0, by rw [hLo.bl.cell (p := ⟨b, o + i * 2 + 1, none⟩) (World.block_lt_of_cell? w _ x1)]; exact x1, x2⟩
    have hn1 : (pcells ls).length = Nat.min ls.length (ls.length + 8) * 2 := by
      rw [pcells_len]; congr 1; exact (Nat.min_eq_left (by omega)).symm
    have H2 : Hid (LoanAt w (wc.drew.setCells g1 0 (pcells ls)) lb g1 g2 ls.length ms.length (entL ls 0) (fun _ => ([], 0)) ∧ (wc.drew.setCells g1 0 (pcells ls)).heap[w.heap.size]? = some (.cells #[.slice a1 ls.length c1, .int .i64 df, .slice a2 ms.length c2, .bool op] 50 (0, 0)) ∧ (wc.drew.setCells g1 0 (pcells ls)).heap[w.heap.size + 1]? = some (.cells #[.slice none 0 0, .int .i64 0, .slice none 0 0, .bool false] 50 (0, 0))) := by
      have e1 := hLo.p1
      refine ⟨⟨below_cells (by omega) _ _ hLo.bl.drew, hLo.p1, hLo.p2, hLo.p3, hLo.n12, hLo.n13, hLo.n23, ?_, ?_, ?_⟩, ?_, ?_⟩
      · rw [heap_setCells_far (Ne.symm hLo.n13)]; exact hLo.loan
      · have := (hLo.row1.of_block (w' := wc.drew) rfl).copied ls (by omega)
        refine ⟨this.blk, fun j hj => ?_, fun j hj => ?_⟩
        · rw [this.fst j hj]; unfold entL; split
          · rfl
          · rw [if_neg (by omega)]
        · rw [this.snd j hj]; unfold entL; split
          · rfl
          · rw [if_neg (by omega)]
      · exact hLo.row2.of_block (heap_setCells_far (Ne.symm hLo.n12) _ _ _)
      · rw [heap_setCells_far (by omega)]; exact hS
      · rw [heap_setCells_far (by omega)]; exact hZ
    clear hLo hS hZ
    go_cut [4] (fun lp wx => lp = .pointer (some ⟨lb, 0, none⟩) ∧ wx = wc.drew.setCells g1 0 (pcells ls))
    case first =>
      go_region_law ((refine step_copy_wide rfl _ _ 47 47 rfl 108 Tryz.underlying47 2 (by kernel_rfl) g1 0 (ls.length + 8) (ls.length + 8) a1 ls.length c1 (by rfl) (by rfl) (pcells ls) hn1 hsrc hth.1 hth.2 (pcells_one ls) ?_))
      all_goals (go_wp2_with fail; go_meet; exact ⟨rfl, rfl⟩)
    case rest =>
      obtain ⟨rfl, hwc2⟩ := hcut
      rw [← hwc2] at H2
      clear hwc2 hth hsrc hn1 l0 t0
      obtain ⟨hLo, hS, hZ⟩ := H2.out
      clear H2
      go_wp2_with fail
      have l0 : wc.cell? ⟨lb, 1, none⟩ = _ := cell_of_row wc lb 1 _ _ _ hLo.loan
      have t0 : wc.cell? ⟨w.heap.size, 2, none⟩ = _ := cell_of_row wc w.heap.size 2 _ _ _ hS
      simp only [List.getElem?_toArray, List.getElem?_cons_zero, List.getElem?_cons_succ] at l0 t0
      have hth := hLo.row2.there (n := (pcells ms).length) (by rw [pcells_len]; omega)
      have hsrc : 0 < (pcells ms).length → ∃ ad, a2 = some ad ∧ ∀ j v, (pcells ms)[j]? = some v → wc.cell? (ad.add j) = some v := pcells_src fun i hi => by
        obtain ⟨b, o, e, x0, x1, x2⟩ := HC2.out i hi
        exact ⟨b, o, e, by rw [hLo.bl.cell (p := ⟨b, o + i * 2, none⟩) (World.block_lt_of_cell? w _ x0)]; exact x0, by rw [hLo.bl.cell (p := ⟨b, o + i * 2 + 1, none⟩) (World.block_lt_of_cell? w _ x1)]; exact x1, x2⟩
      have hn1 : (pcells ms).length = Nat.min ms.length (ms.length + 8) * 2 := by
        rw [pcells_len]; congr 1; exact (Nat.min_eq_left (by omega)).symm
      have H2 : Hid (LoanAt w (wc.drew.setCells g2 0 (pcells ms)) lb g1 g2 ls.length ms.length (entL ls 0) (entL ms 0) ∧ (wc.drew.setCells g2 0 (pcells ms)).heap[w.heap.size]? = some (.cells #[.slice a1 ls.length c1, .int .i64 df, .slice a2 ms.length c2, .bool op] 50 (0, 0)) ∧ (wc.drew.setCells g2 0 (pcells ms)).heap[w.heap.size + 1]? = some (.cells #[.slice none 0 0, .int .i64 0, .slice none 0 0, .bool false] 50 (0, 0))) := by
        have e1 := hLo.p2
        refine ⟨⟨below_cells (by omega) _ _ hLo.bl.drew, hLo.p1, hLo.p2, hLo.p3, hLo.n12, hLo.n13, hLo.n23, ?_, ?_, ?_⟩, ?_, ?_⟩
        · rw [heap_setCells_far (Ne.symm hLo.n23)]; exact hLo.loan
        · exact hLo.row1.of_block (heap_setCells_far hLo.n12 _ _ _)
        · have := (hLo.row2.of_block (w' := wc.drew) rfl).copied ms (by omega)
          refine ⟨this.blk, fun j hj => ?_, fun j hj => ?_⟩
          · rw [this.fst j hj]; unfold entL; split
            · rfl
            · rw [if_neg (by omega)]
          · rw [this.snd j hj]; unfold entL; split
            · rfl
            · rw [if_neg (by omega)]
        · rw [heap_setCells_far (by omega)]; exact hS
        · rw [heap_setCells_far (by omega)]; exact hZ
      clear hLo hS hZ
      go_cut [4] (fun lp wx => lp = .pointer (some ⟨lb, 0, none⟩) ∧ wx = wc.drew.setCells g2 0 (pcells ms))
      case first =>
        go_region_law ((refine step_copy_wide rfl _ _ 48 48 rfl 110 Tryz.underlying48 2 (by kernel_rfl) g2 0 (ms.length + 8) (ms.length + 8) a2 ms.length c2 (by rfl) (by rfl) (pcells ms) hn1 hsrc hth.1 hth.2 (pcells_one ms) ?_))
        all_goals (go_wp2_with fail; go_meet; exact ⟨rfl, rfl⟩)
      case rest =>
        obtain ⟨rfl, hwc3⟩ := hcut
        rw [← hwc3] at H2
        clear hwc3 hth hsrc hn1 l0 t0 s0 s1 s2 s3 hmk1 hmk2 HC1 HC2
        go_wp2_with fail
        go_loopw [5] (fun iv wr => ∃ i : Nat, i ≤ 8 ∧ iv = .int .i64 i ∧ Hid (LoanAt w wr lb g1 g2 ls.length ms.length (entL ls i) (entL ms i) ∧ wr.heap[w.heap.size]? = some (.cells #[.slice a1 ls.length c1, .int .i64 df, .slice a2 ms.length c2, .bool op] 50 (0, 0)) ∧ wr.heap[w.heap.size + 1]? = some (.cells #[.slice none 0 0, .int .i64 0, .slice none 0 0, .bool false] 50 (0, 0)))) (fun iv _ => 8 - (intOf iv).toNat)
        case atStart => exact ⟨0, by omega, rfl, H2.out⟩
        case round =>
          obtain ⟨i, hi, rfl, HI⟩ := hrel
          by_cases hlt : i < 8
          · obtain ⟨hLo, hS, hZ⟩ := HI.out
            clear HI
            have l0 : wr.cell? ⟨lb, 0, none⟩ = _ := cell_of_row wr lb 0 _ _ _ hLo.loan
            have l1 : wr.cell? ⟨lb, 1, none⟩ = _ := cell_of_row wr lb 1 _ _ _ hLo.loan
            have t0 : wr.cell? ⟨w.heap.size, 0, none⟩ = _ := cell_of_row wr w.heap.size 0 _ _ _ hS
            have t2 : wr.cell? ⟨w.heap.size, 2, none⟩ = _ := cell_of_row wr w.heap.size 2 _ _ _ hS
            simp only [List.getElem?_toArray, List.getElem?_cons_zero, List.getElem?_cons_succ] at l0 l1 t0 t2
            have r0 := hLo.row1.fst (ls.length + i) (by omega)
            have r1 := hLo.row1.snd (ls.length + i) (by omega)
            have rf := hLo.row1.frz
            have qn : ((ls.length : Int) + (i : Int)).toNat = ls.length + i := by omega
            have b0 : (0 : Int) ≤ (ls.length : Int) + (i : Int) := by omega
            have b1 : (ls.length : Int) + (i : Int) < (ls.length : Int) + 8 := by omega
            have b2 : (i : Int) < 8 := by omega
            have b3 : ¬ ((ls.length : Int) + (i : Int) < 0) := by omega
            have ne1 : g1 ≠ lb := hLo.n13
            have ne2 : g1 ≠ w.heap.size := by have := hLo.p1; omega
            have hLo1 : LoanAt w (((wr.setCell ⟨g1, (ls.length + i) * 2, none⟩ (S bhd)).setCell ⟨g1, (ls.length + i) * 2 + 1, none⟩ (.int .i64 i)).drew) lb g1 g2 ls.length ms.length (entL ls (i + 1)) (entL ms i) := by
              have e1 := hLo.p1
              refine ⟨((hLo.bl.setCell (by simp; omega) _).setCell (by simp; omega) _).drew, hLo.p1, hLo.p2, hLo.p3, hLo.n12, hLo.n13, hLo.n23, ?_, ?_, ?_⟩
              · exact ((Below.heap_setCell _ _ _ _ (by simpa using Ne.symm ne1)).trans (Below.heap_setCell _ _ _ _ (by simpa using Ne.symm ne1))).trans hLo.loan
              · refine (hLo.row1.put (f' := entL ls (i + 1)) (j := ls.length + i) (by omega) (x := bhd) (y := (i : Int)) ?_ ?_).of_block rfl
                · unfold entL; rw [if_neg (by omega), if_pos (by omega), show ls.length + i - ls.length = i by omega]
                · intro q hq hne
                  unfold entL
                  split
                  · rfl
                  · by_cases e : q < ls.length + i
                    · rw [if_pos e, if_pos (by omega)]
                    · rw [if_neg e, if_neg (by omega)]
              · exact hLo.row2.of_block ((Below.heap_setCell _ _ _ _ (by simpa using Ne.symm hLo.n12)).trans (Below.heap_setCell _ _ _ _ (by simpa using Ne.symm hLo.n12)))
            have hS1 : (((wr.setCell ⟨g1, (ls.length + i) * 2, none⟩ (S bhd)).setCell ⟨g1, (ls.length + i) * 2 + 1, none⟩ (.int .i64 i)).drew).heap[w.heap.size]? = _ := ((Below.heap_setCell _ _ _ _ (by simpa using Ne.symm ne2)).trans (Below.heap_setCell _ _ _ _ (by simpa using Ne.symm ne2))).trans hS
            have hZ1 : (((wr.setCell ⟨g1, (ls.length + i) * 2, none⟩ (S bhd)).setCell ⟨g1, (ls.length + i) * 2 + 1, none⟩ (.int .i64 i)).drew).heap[w.heap.size + 1]? = _ := ((Below.heap_setCell _ _ _ _ (by have := hLo.p1; simp; omega)).trans (Below.heap_setCell _ _ _ _ (by have := hLo.p1; simp; omega))).trans hZ
            have H3 : Hid _ := And.intro hLo1 (And.intro hS1 hZ1)
            clear hLo1 hS1 hZ1 hLo hS hZ
            unfold S bhd at H3
            go_wp2_with fail
            go_region
            go_wp2_with fail
            generalize hw1 : (((wr.setCell ⟨g1, (ls.length + i) * 2, none⟩ (.string ⟨#[98, 101, 104, 105, 110, 100]⟩)).setCell ⟨g1, (ls.length + i) * 2 + 1, none⟩ (.int .i64 i)).drew) = w1 at *
            clear hw1 l0 l1 t0 t2 r0 r1 rf qn b0 b1 b2 b3 ne1 ne2
            obtain ⟨hLo, hS, hZ⟩ := H3.out
            clear H3
            have l0 : w1.cell? ⟨lb, 0, none⟩ = _ := cell_of_row w1 lb 0 _ _ _ hLo.loan
            have l1 : w1.cell? ⟨lb, 1, none⟩ = _ := cell_of_row w1 lb 1 _ _ _ hLo.loan
            have t0 : w1.cell? ⟨w.heap.size, 0, none⟩ = _ := cell_of_row w1 w.heap.size 0 _ _ _ hS
            have t2 : w1.cell? ⟨w.heap.size, 2, none⟩ = _ := cell_of_row w1 w.heap.size 2 _ _ _ hS
            simp only [List.getElem?_toArray, List.getElem?_cons_zero, List.getElem?_cons_succ] at l0 l1 t0 t2
            have r0 := hLo.row2.fst (ms.length + i) (by omega)
            have r1 := hLo.row2.snd (ms.length + i) (by omega)
            have rf := hLo.row2.frz
            have qn : ((ms.length : Int) + (i : Int)).toNat = ms.length + i := by omega
            have b0 : (0 : Int) ≤ (ms.length : Int) + (i : Int) := by omega
            have b1 : (ms.length : Int) + (i : Int) < (ms.length : Int) + 8 := by omega
            have b2 : (i : Int) < 8 := by omega
            have b3 : ¬ ((ms.length : Int) + (i : Int) < 0) := by omega
            have ne1 : g2 ≠ lb := hLo.n23
            have ne2 : g2 ≠ w.heap.size := by have := hLo.p2; omega
            have hLo1 : LoanAt w (((w1.setCell ⟨g2, (ms.length + i) * 2, none⟩ (S bhd)).setCell ⟨g2, (ms.length + i) * 2 + 1, none⟩ (.int .i64 i)).drew) lb g1 g2 ls.length ms.length (entL ls (i + 1)) (entL ms (i + 1)) := by
              have e1 := hLo.p2
              refine ⟨((hLo.bl.setCell (by simp; omega) _).setCell (by simp; omega) _).drew, hLo.p1, hLo.p2, hLo.p3, hLo.n12, hLo.n13, hLo.n23, ?_, ?_, ?_⟩
              · exact ((Below.heap_setCell _ _ _ _ (by simpa using Ne.symm ne1)).trans (Below.heap_setCell _ _ _ _ (by simpa using Ne.symm ne1))).trans hLo.loan
              · exact hLo.row1.of_block ((Below.heap_setCell _ _ _ _ (by simpa using hLo.n12)).trans (Below.heap_setCell _ _ _ _ (by simpa using hLo.n12)))
              · refine (hLo.row2.put (f' := entL ms (i + 1)) (j := ms.length + i) (by omega) (x := bhd) (y := (i : Int)) ?_ ?_).of_block rfl
                · unfold entL; rw [if_neg (by omega), if_pos (by omega), show ms.length + i - ms.length = i by omega]
                · intro q hq hne
                  unfold entL
                  split
                  · rfl
                  · by_cases e : q < ms.length + i
                    · rw [if_pos e, if_pos (by omega)]
                    · rw [if_neg e, if_neg (by omega)]
            have hS1 : (((w1.setCell ⟨g2, (ms.length + i) * 2, none⟩ (S bhd)).setCell ⟨g2, (ms.length + i) * 2 + 1, none⟩ (.int .i64 i)).drew).heap[w.heap.size]? = _ := ((Below.heap_setCell _ _ _ _ (by simpa using Ne.symm ne2)).trans (Below.heap_setCell _ _ _ _ (by simpa using Ne.symm ne2))).trans hS
            have hZ1 : (((w1.setCell ⟨g2, (ms.length + i) * 2, none⟩ (S bhd)).setCell ⟨g2, (ms.length + i) * 2 + 1, none⟩ (.int .i64 i)).drew).heap[w.heap.size + 1]? = _ := ((Below.heap_setCell _ _ _ _ (by have := hLo.p2; simp; omega)).trans (Below.heap_setCell _ _ _ _ (by have := hLo.p2; simp; omega))).trans hZ
            have H3 : Hid _ := And.intro hLo1 (And.intro hS1 hZ1)
            clear hLo1 hS1 hZ1 hLo hS hZ
            unfold S bhd at H3
            go_region
            go_wp2_with fail
            go_roundw
            case rel => exact ⟨i + 1, by omega, by simp, H3.out⟩
            case measure => simp [intOf]; omega
          · obtain rfl : i = 8 := by omega
            obtain ⟨hLo, hS, hZ⟩ := HI.out
            clear HI
            have l0 : wr.cell? ⟨lb, 0, none⟩ = _ := cell_of_row wr lb 0 _ _ _ hLo.loan
            have l1 : wr.cell? ⟨lb, 1, none⟩ = _ := cell_of_row wr lb 1 _ _ _ hLo.loan
            have t0 : wr.cell? ⟨w.heap.size, 0, none⟩ = _ := cell_of_row wr w.heap.size 0 _ _ _ hS
            have t1 : wr.cell? ⟨w.heap.size, 1, none⟩ = _ := cell_of_row wr w.heap.size 1 _ _ _ hS
            have t2 : wr.cell? ⟨w.heap.size, 2, none⟩ = _ := cell_of_row wr w.heap.size 2 _ _ _ hS
            have t3 : wr.cell? ⟨w.heap.size, 3, none⟩ = _ := cell_of_row wr w.heap.size 3 _ _ _ hS
            have z0 : wr.cell? ⟨w.heap.size + 1, 0, none⟩ = _ := cell_of_row wr (w.heap.size + 1) 0 _ _ _ hZ
            have z1 : wr.cell? ⟨w.heap.size + 1, 1, none⟩ = _ := cell_of_row wr (w.heap.size + 1) 1 _ _ _ hZ
            have z2 : wr.cell? ⟨w.heap.size + 1, 2, none⟩ = _ := cell_of_row wr (w.heap.size + 1) 2 _ _ _ hZ
            have z3 : wr.cell? ⟨w.heap.size + 1, 3, none⟩ = _ := cell_of_row wr (w.heap.size + 1) 3 _ _ _ hZ
            have zf : ∀ j, wr.frozen? ⟨w.heap.size + 1, j, none⟩ = false := fun j => by simp [World.frozen?, hZ]
            simp only [List.getElem?_toArray, List.getElem?_cons_zero, List.getElem?_cons_succ] at l0 l1 t0 t1 t2 t3 z0 z1 z2 z3
            have HLo : Hid (LoanAt w wr lb g1 g2 ls.length ms.length (entL ls 8) (entL ms 8)) := hLo
            have nb1 : ¬ ls.length + 8 = ls.length := by omega
            have nb2 : (ls.length : Int) ≤ (ls.length : Int) + 8 := by omega
            have nb3 : (ms.length : Int) ≤ (ms.length : Int) + 8 := by omega
            clear hLo hS hZ
            go_wp2_with fail
            go_region
            all_goals go_wp2_with fail
            all_goals refine bodyPost_ret (v := .tuple #[.pointer (some ⟨lb, 0, none⟩), .agg #[.slice (some ⟨g1, 0, none⟩) ls.length (ls.length + 8), .int .i64 df, .slice (some ⟨g2, 0, none⟩) ms.length (ms.length + 8), .bool op]]) (by simp [results, Tryz.results17, go_sem, z0, z1, z2, z3, zf]) rfl ⟨lb, g1, g2, rfl, ?_⟩
            all_goals exact ((((HLo.out.set 0 _).set 1 _).set 2 _).set 3 _).drew
end Go.Proofs.YtfkdailfcmnjlaaGreatDoor

namespace Go.Proofs.YtfkdailfcmnjlaaGreatDoor
open Go Go.RowKit
set_option maxRecDepth 100000
attribute [local go_sem ↓] Go.wp_at_zero Go.wp_at_succ

/-- What is written over. -/
def oth : List UInt8 := [111, 116, 104, 101, 114]
def ovL (ls : List (List UInt8 × Int)) (y : Int) (k : Nat) (j : Nat) : List UInt8 × Int := if j < k then (oth, y) else entL ls 8 j
theorem LoanAt.over1 {w wx : World} {lb g1 g2 n m : Nat} {f1 f2 f1' : Nat → List UInt8 × Int} (h : LoanAt w wx lb g1 g2 n m f1 f2) {j : Nat} (hj : j < n + 8) {x : List UInt8} {y : Int} (he : f1' j = (x, y)) (ho : ∀ i, i < n + 8 → i ≠ j → f1' i = f1 i) : LoanAt w ((wx.setCell ⟨g1, j * 2, none⟩ (S x)).setCell ⟨g1, j * 2 + 1, none⟩ (.int .i64 y)) lb g1 g2 n m f1' f2 := by
  have e1 := h.p1
  exact ⟨(h.bl.setCell (by simp; omega) _).setCell (by simp; omega) _, h.p1, h.p2, h.p3, h.n12, h.n13, h.n23, ((Below.heap_setCell _ _ _ _ (by simpa using Ne.symm h.n13)).trans (Below.heap_setCell _ _ _ _ (by simpa using Ne.symm h.n13))).trans h.loan, h.row1.put hj he ho, h.row2.of_block ((Below.heap_setCell _ _ _ _ (by simpa using Ne.symm h.n12)).trans (Below.heap_setCell _ _ _ _ (by simpa using Ne.symm h.n12)))⟩
theorem LoanAt.over2 {w wx : World} {lb g1 g2 n m : Nat} {f1 f2 f2' : Nat → List UInt8 × Int} (h : LoanAt w wx lb g1 g2 n m f1 f2) {j : Nat} (hj : j < m + 8) {x : List UInt8} {y : Int} (he : f2' j = (x, y)) (ho : ∀ i, i < m + 8 → i ≠ j → f2' i = f2 i) : LoanAt w ((wx.setCell ⟨g2, j * 2, none⟩ (S x)).setCell ⟨g2, j * 2 + 1, none⟩ (.int .i64 y)) lb g1 g2 n m f1 f2' := by
  have e1 := h.p2
  exact ⟨(h.bl.setCell (by simp; omega) _).setCell (by simp; omega) _, h.p1, h.p2, h.p3, h.n12, h.n13, h.n23, ((Below.heap_setCell _ _ _ _ (by simpa using Ne.symm h.n23)).trans (Below.heap_setCell _ _ _ _ (by simpa using Ne.symm h.n23))).trans h.loan, h.row1.of_block ((Below.heap_setCell _ _ _ _ (by simpa using h.n12)).trans (Below.heap_setCell _ _ _ _ (by simpa using h.n12))), h.row2.put hj he ho⟩
/-- All older memory but two rows is as it was. -/
def KeptBut (sb g1 g2 : Nat) (wx wr : World) : Prop := ∀ k, k < sb → k ≠ g1 → k ≠ g2 → wr.heap[k]? = wx.heap[k]?
theorem KeptBut.over {sb g1 g2 g : Nat} {wx wr : World} (h : KeptBut sb g1 g2 wx wr) (hg : g = g1 ∨ g = g2) (hs : sb < wr.heap.size) (i j : Nat) (v u : Value) (o : Obj) : KeptBut sb g1 g2 wx ((((wr.setCell ⟨g, i, none⟩ v).setCell ⟨g, j, none⟩ u).alloc o).drew) := fun k hk h1 h2 => by
  have hne : k ≠ g := by rcases hg with rfl | rfl <;> assumption
  show (((wr.setCell ⟨g, i, none⟩ v).setCell ⟨g, j, none⟩ u).alloc o).heap[k]? = _
  rw [Below.heap_alloc _ _ _ (by simp; omega), Below.heap_setCell _ _ _ _ (by simpa using hne), Below.heap_setCell _ _ _ _ (by simpa using hne)]
  exact h k hk h1 h2
theorem ov_step (ls : List (List UInt8 × Int)) (y : Int) (k : Nat) : ovL ls y (k + 1) k = (oth, y) ∧ (∀ i, i ≠ k → ovL ls y (k + 1) i = ovL ls y k i) ∧ ovL ls y k k = entL ls 8 k := by
  refine ⟨by unfold ovL; rw [if_pos (by omega)], fun i hi => ?_, by unfold ovL; rw [if_neg (by omega)]⟩
  unfold ovL
  by_cases h : i < k
  · rw [if_pos h, if_pos (by omega)]
  · rw [if_neg h, if_neg (by omega)]
set_option maxHeartbeats 8000000 in
theorem back_any {lv mv : Value} (s : Stt) (w wx : World) {lb g1 g2 : Nat} (h1 : PairsAt lv s.levels w) (h2 : PairsAt mv s.members w) (hl : s.levels.length ≤ 5900000000000) (hm : s.members.length ≤ 5900000000000) (hLo : LoanAt w wx lb g1 g2 s.levels.length s.members.length (entL s.levels 8) (entL s.members 8)) :
    Calls Tryz.prog 20 #[.pointer (some ⟨lb, 0, none⟩), sttV lv mv s] wx fun en w' => en = .returned (.bool true) ∧ Below w.heap.size w w' ∧ KeptBut wx.heap.size g1 g2 wx w' := by
  unfold sttV
  obtain ⟨_, a1, c1, rfl, hc1⟩ := h1
  obtain ⟨_, a2, c2, rfl, hc2⟩ := h2
  obtain ⟨ls, df, ms, op⟩ := s
  simp only [] at *
  have HC1 : Hid _ := hc1
  have HC2 : Hid _ := hc2
  have hsb : w.heap.size ≤ wx.heap.size := hLo.bl.size
  have H0 : Hid (LoanAt w (wx.alloc (.cells #[.slice a1 ls.length c1, .int .i64 df, .slice a2 ms.length c2, .bool op] 50 (0, 0))) lb g1 g2 ls.length ms.length (ovL ls 99 0) (entL ms 8) ∧ (wx.alloc (.cells #[.slice a1 ls.length c1, .int .i64 df, .slice a2 ms.length c2, .bool op] 50 (0, 0))).heap[wx.heap.size]? = some (.cells #[.slice a1 ls.length c1, .int .i64 df, .slice a2 ms.length c2, .bool op] 50 (0, 0)) ∧ KeptBut wx.heap.size g1 g2 wx (wx.alloc (.cells #[.slice a1 ls.length c1, .int .i64 df, .slice a2 ms.length c2, .bool op] 50 (0, 0)))) :=
    ⟨hLo.below ((Below.refl _ _).alloc (Nat.le_refl _) _), heap_alloc_new wx _, fun k hk _ _ => Below.heap_alloc wx _ k hk⟩
  have nsb1 : g1 ≠ wx.heap.size := by obtain ⟨cs, hc, _⟩ := hLo.row1.blk; have := lt_of_get hc; omega
  have nsb2 : g2 ≠ wx.heap.size := by obtain ⟨cs, hc, _⟩ := hLo.row2.blk; have := lt_of_get hc; omega
  clear hc1 hc2 hLo
  go_enter Tryz.func20, Tryz.ntmps20
  go_wp2_with fail
  generalize hwz : wx.alloc (.cells #[.slice a1 ls.length c1, .int .i64 df, .slice a2 ms.length c2, .bool op] 50 (0, 0)) = wz at *
  clear hwz
  generalize hsz : wx.heap.size = sb at *
  have HSZ : Hid _ := hsz
  clear hsz
  go_loopw [5, 6] (fun ov iv wr => ∃ k : Nat, k ≤ ls.length + 8 ∧ iv = .int .i64 k ∧ ov = .bool true ∧ Hid (LoanAt w wr lb g1 g2 ls.length ms.length (ovL ls 99 k) (entL ms 8) ∧ wr.heap[sb]? = some (.cells #[.slice a1 ls.length c1, .int .i64 df, .slice a2 ms.length c2, .bool op] 50 (0, 0)) ∧ KeptBut sb g1 g2 wx wr)) (fun _ iv _ => ls.length + 8 - (intOf iv).toNat)
  case atStart => exact ⟨0, by omega, rfl, rfl, H0.out⟩
  case round =>
    obtain ⟨k, hk, rfl, rfl, HI⟩ := hrel
    obtain ⟨hLo, hS, hKp⟩ := HI.out
    have l0 : wr.cell? ⟨lb, 0, none⟩ = _ := cell_of_row wr lb 0 _ _ _ hLo.loan
    have t0 : wr.cell? ⟨sb, 0, none⟩ = _ := cell_of_row wr sb 0 _ _ _ hS
    simp only [List.getElem?_toArray, List.getElem?_cons_zero, List.getElem?_cons_succ] at l0 t0
    by_cases hlt : k < ls.length + 8
    · obtain ⟨o1, o2, o3⟩ := ov_step ls 99 k
      have r0 := hLo.row1.fst k hlt
      have r1 := hLo.row1.snd k hlt
      have rf := hLo.row1.frz
      rw [o3] at r0 r1
      have hbk : (k : Int) < (ls.length : Int) + 8 := by omega
      have b0 : (0 : Int) ≤ (k : Int) := by omega
      by_cases hkn : k < ls.length
      · have hen : entL ls 8 k = ls.getD k ([], 0) := by unfold entL; rw [if_pos hkn]
        obtain ⟨b, o, rfl, x0, x1, x2⟩ := HC1.out k hkn
        have x0' : wr.cell? ⟨b, o + k * 2, none⟩ = some (S (ls.getD k ([], 0)).1) := by rw [hLo.bl.cell (p := ⟨b, o + k * 2, none⟩) (World.block_lt_of_cell? w _ x0)]; exact x0
        have x1' : wr.cell? ⟨b, o + k * 2 + 1, none⟩ = some (.int .i64 (ls.getD k ([], 0)).2) := by rw [hLo.bl.cell (p := ⟨b, o + k * 2 + 1, none⟩) (World.block_lt_of_cell? w _ x1)]; exact x1
        have lbx := World.block_lt_of_cell? wr _ x0'
        have lg := World.block_lt_of_cell? wr _ r0
        have ll := World.block_lt_of_cell? wr _ l0
        have lt := World.block_lt_of_cell? wr _ t0
        simp only [] at lbx lg ll lt
        rw [hen] at r0 r1
        clear x0 x1
        generalize ls.getD k ([], 0) = p at *
        have n1 : wr.heap.size ≠ b := by omega
        have n2 : wr.heap.size ≠ g1 := by omega
        have n3 : wr.heap.size ≠ lb := by omega
        have n4 : wr.heap.size ≠ sb := by omega
        have n1' := n1.symm
        have n2' := n2.symm
        have n3' := n3.symm
        have n4' := n4.symm
        have hbn : (k : Int) < (ls.length : Int) := by omega
        have H4 : Hid (LoanAt w ((((wr.setCell ⟨g1, k * 2, none⟩ (S oth)).setCell ⟨g1, k * 2 + 1, none⟩ (.int .i64 99)).alloc (.cells #[S p.1, .int .i64 p.2] 108 (0, 0))).drew) lb g1 g2 ls.length ms.length (ovL ls 99 (k + 1)) (entL ms 8) ∧ ((((wr.setCell ⟨g1, k * 2, none⟩ (S oth)).setCell ⟨g1, k * 2 + 1, none⟩ (.int .i64 99)).alloc (.cells #[S p.1, .int .i64 p.2] 108 (0, 0))).drew).heap[sb]? = some (.cells #[.slice (some ⟨b, o, none⟩) ls.length c1, .int .i64 df, .slice a2 ms.length c2, .bool op] 50 (0, 0)) ∧ KeptBut sb g1 g2 wx ((((wr.setCell ⟨g1, k * 2, none⟩ (S oth)).setCell ⟨g1, k * 2 + 1, none⟩ (.int .i64 99)).alloc (.cells #[S p.1, .int .i64 p.2] 108 (0, 0))).drew)) :=
          ⟨((hLo.over1 hlt o1 fun i _ hi => o2 i hi).below ((Below.refl _ _).alloc (Nat.le_refl _) _)).drew, (Below.heap_alloc _ _ _ (by simpa using lt)).trans (((Below.heap_setCell _ _ _ _ (by simpa using nsb1.symm)).trans (Below.heap_setCell _ _ _ _ (by simpa using nsb1.symm))).trans hS), hKp.over (.inl rfl) lt _ _ _ _ _⟩
        clear hLo hS HI hKp
        unfold S oth at H4
        go_wp2_with fail
        go_region
        all_goals go_wp2_with fail
        all_goals go_roundw
        case rel => first | exact ⟨k + 1, by omega, by simp, by simp, H4.out⟩ | ((repeat apply Exists.intro); exact ⟨⟨k + 1, by omega, by simp, by simp, H4.out⟩, rfl⟩)
        case measure => simp [intOf]; omega
      · have hen : entL ls 8 k = (bhd, ((k - ls.length : Nat) : Int)) := by unfold entL; rw [if_neg hkn, if_pos (by omega)]
        have lg := World.block_lt_of_cell? wr _ r0
        have ll := World.block_lt_of_cell? wr _ l0
        have lt := World.block_lt_of_cell? wr _ t0
        simp only [] at lg ll lt
        rw [hen] at r0 r1
        simp only [] at r0 r1
        have e9 : ((k - ls.length : Nat) : Int) = (k : Int) - (ls.length : Int) := by omega
        rw [e9] at r1
        clear e9 hen
        have n2 : wr.heap.size ≠ g1 := by omega
        have n3 : wr.heap.size ≠ lb := by omega
        have n4 : wr.heap.size ≠ sb := by omega
        have n2' := n2.symm
        have n3' := n3.symm
        have n4' := n4.symm
        have hbn : ¬ (k : Int) < (ls.length : Int) := by omega
        have H4 : Hid (LoanAt w ((((wr.setCell ⟨g1, k * 2, none⟩ (S oth)).setCell ⟨g1, k * 2 + 1, none⟩ (.int .i64 99)).alloc (.cells #[S bhd, .int .i64 ((k : Int) - (ls.length : Int))] 108 (0, 0))).drew) lb g1 g2 ls.length ms.length (ovL ls 99 (k + 1)) (entL ms 8) ∧ ((((wr.setCell ⟨g1, k * 2, none⟩ (S oth)).setCell ⟨g1, k * 2 + 1, none⟩ (.int .i64 99)).alloc (.cells #[S bhd, .int .i64 ((k : Int) - (ls.length : Int))] 108 (0, 0))).drew).heap[sb]? = some (.cells #[.slice a1 ls.length c1, .int .i64 df, .slice a2 ms.length c2, .bool op] 50 (0, 0)) ∧ KeptBut sb g1 g2 wx ((((wr.setCell ⟨g1, k * 2, none⟩ (S oth)).setCell ⟨g1, k * 2 + 1, none⟩ (.int .i64 99)).alloc (.cells #[S bhd, .int .i64 ((k : Int) - (ls.length : Int))] 108 (0, 0))).drew)) :=
          ⟨((hLo.over1 hlt o1 fun i _ hi => o2 i hi).below ((Below.refl _ _).alloc (Nat.le_refl _) _)).drew, (Below.heap_alloc _ _ _ (by simpa using lt)).trans (((Below.heap_setCell _ _ _ _ (by simpa using nsb1.symm)).trans (Below.heap_setCell _ _ _ _ (by simpa using nsb1.symm))).trans hS), hKp.over (.inl rfl) lt _ _ _ _ _⟩
        clear hLo hS HI hKp
        unfold S bhd at r0
        unfold S oth bhd at H4
        go_wp2_with fail
        go_region
        all_goals go_wp2_with fail
        all_goals go_roundw
        case rel => first | exact ⟨k + 1, by omega, by simp, by simp, H4.out⟩ | ((repeat apply Exists.intro); exact ⟨⟨k + 1, by omega, by simp, by simp, H4.out⟩, rfl⟩)
        case measure => simp [intOf]; omega
    · have hke : k = ls.length + 8 := by omega
      subst hke
      have hq : ((ls.length + 8 : Nat) : Int) = (ls.length : Int) + 8 := by omega
      have H0 : Hid (LoanAt w wr lb g1 g2 ls.length ms.length (ovL ls 99 (ls.length + 8)) (ovL ms 9 0) ∧ wr.heap[sb]? = some (.cells #[.slice a1 ls.length c1, .int .i64 df, .slice a2 ms.length c2, .bool op] 50 (0, 0)) ∧ KeptBut sb g1 g2 wx wr) := ⟨hLo, hS, hKp⟩
      generalize ovL ls 99 (ls.length + 8) = f1 at *
      clear HI hLo hS hKp
      go_wp2_with fail
      go_loopw [5, 8] (fun ov iv wr => ∃ k : Nat, k ≤ ms.length + 8 ∧ iv = .int .i64 k ∧ ov = .bool true ∧ Hid (LoanAt w wr lb g1 g2 ls.length ms.length f1 (ovL ms 9 k) ∧ wr.heap[sb]? = some (.cells #[.slice a1 ls.length c1, .int .i64 df, .slice a2 ms.length c2, .bool op] 50 (0, 0)) ∧ KeptBut sb g1 g2 wx wr)) (fun _ iv _ => ms.length + 8 - (intOf iv).toNat)
      case atStart => exact ⟨0, by omega, rfl, rfl, H0.out⟩
      case round =>
        obtain ⟨k, hk, rfl, rfl, HI⟩ := hrel
        obtain ⟨hLo, hS, hKp⟩ := HI.out
        have l0 : wr.cell? ⟨lb, 1, none⟩ = _ := cell_of_row wr lb 1 _ _ _ hLo.loan
        have t0 : wr.cell? ⟨sb, 2, none⟩ = _ := cell_of_row wr sb 2 _ _ _ hS
        simp only [List.getElem?_toArray, List.getElem?_cons_zero, List.getElem?_cons_succ] at l0 t0
        by_cases hlt : k < ms.length + 8
        · obtain ⟨o1, o2, o3⟩ := ov_step ms 9 k
          have r0 := hLo.row2.fst k hlt
          have r1 := hLo.row2.snd k hlt
          have rf := hLo.row2.frz
          rw [o3] at r0 r1
          have hbk : (k : Int) < (ms.length : Int) + 8 := by omega
          have b0 : (0 : Int) ≤ (k : Int) := by omega
          by_cases hkn : k < ms.length
          · have hen : entL ms 8 k = ms.getD k ([], 0) := by unfold entL; rw [if_pos hkn]
            obtain ⟨b, o, rfl, x0, x1, x2⟩ := HC2.out k hkn
            have x0' : wr.cell? ⟨b, o + k * 2, none⟩ = some (S (ms.getD k ([], 0)).1) := by rw [hLo.bl.cell (p := ⟨b, o + k * 2, none⟩) (World.block_lt_of_cell? w _ x0)]; exact x0
            have x1' : wr.cell? ⟨b, o + k * 2 + 1, none⟩ = some (.int .i64 (ms.getD k ([], 0)).2) := by rw [hLo.bl.cell (p := ⟨b, o + k * 2 + 1, none⟩) (World.block_lt_of_cell? w _ x1)]; exact x1
            have lbx := World.block_lt_of_cell? wr _ x0'
            have lg := World.block_lt_of_cell? wr _ r0
            have ll := World.block_lt_of_cell? wr _ l0
            have lt := World.block_lt_of_cell? wr _ t0
            simp only [] at lbx lg ll lt
            rw [hen] at r0 r1
            clear x0 x1
            generalize ms.getD k ([], 0) = p at *
            have n1 : wr.heap.size ≠ b := by omega
            have n2 : wr.heap.size ≠ g2 := by omega
            have n3 : wr.heap.size ≠ lb := by omega
            have n4 : wr.heap.size ≠ sb := by omega
            have n1' := n1.symm
            have n2' := n2.symm
            have n3' := n3.symm
            have n4' := n4.symm
            have hbn : (k : Int) < (ms.length : Int) := by omega
            have H4 : Hid (LoanAt w ((((wr.setCell ⟨g2, k * 2, none⟩ (S oth)).setCell ⟨g2, k * 2 + 1, none⟩ (.int .i64 9)).alloc (.cells #[S p.1, .int .i64 p.2] 110 (0, 0))).drew) lb g1 g2 ls.length ms.length f1 (ovL ms 9 (k + 1)) ∧ ((((wr.setCell ⟨g2, k * 2, none⟩ (S oth)).setCell ⟨g2, k * 2 + 1, none⟩ (.int .i64 9)).alloc (.cells #[S p.1, .int .i64 p.2] 110 (0, 0))).drew).heap[sb]? = some (.cells #[.slice a1 ls.length c1, .int .i64 df, .slice (some ⟨b, o, none⟩) ms.length c2, .bool op] 50 (0, 0)) ∧ KeptBut sb g1 g2 wx ((((wr.setCell ⟨g2, k * 2, none⟩ (S oth)).setCell ⟨g2, k * 2 + 1, none⟩ (.int .i64 9)).alloc (.cells #[S p.1, .int .i64 p.2] 110 (0, 0))).drew)) :=
              ⟨((hLo.over2 hlt o1 fun i _ hi => o2 i hi).below ((Below.refl _ _).alloc (Nat.le_refl _) _)).drew, (Below.heap_alloc _ _ _ (by simpa using lt)).trans (((Below.heap_setCell _ _ _ _ (by simpa using nsb2.symm)).trans (Below.heap_setCell _ _ _ _ (by simpa using nsb2.symm))).trans hS), hKp.over (.inr rfl) lt _ _ _ _ _⟩
            clear hLo hS HI hKp
            unfold S oth at H4
            go_wp2_with fail
            go_region
            all_goals go_wp2_with fail
            all_goals go_roundw
            case rel => first | exact ⟨k + 1, by omega, by simp, by simp, H4.out⟩ | ((repeat apply Exists.intro); exact ⟨⟨k + 1, by omega, by simp, by simp, H4.out⟩, rfl⟩)
            case measure => simp [intOf]; omega
          · have hen : entL ms 8 k = (bhd, ((k - ms.length : Nat) : Int)) := by unfold entL; rw [if_neg hkn, if_pos (by omega)]
            have lg := World.block_lt_of_cell? wr _ r0
            have ll := World.block_lt_of_cell? wr _ l0
            have lt := World.block_lt_of_cell? wr _ t0
            simp only [] at lg ll lt
            rw [hen] at r0 r1
            simp only [] at r0 r1
            have e9 : ((k - ms.length : Nat) : Int) = (k : Int) - (ms.length : Int) := by omega
            rw [e9] at r1
            clear e9 hen
            have n2 : wr.heap.size ≠ g2 := by omega
            have n3 : wr.heap.size ≠ lb := by omega
            have n4 : wr.heap.size ≠ sb := by omega
            have n2' := n2.symm
            have n3' := n3.symm
            have n4' := n4.symm
            have hbn : ¬ (k : Int) < (ms.length : Int) := by omega
            have H4 : Hid (LoanAt w ((((wr.setCell ⟨g2, k * 2, none⟩ (S oth)).setCell ⟨g2, k * 2 + 1, none⟩ (.int .i64 9)).alloc (.cells #[S bhd, .int .i64 ((k : Int) - (ms.length : Int))] 110 (0, 0))).drew) lb g1 g2 ls.length ms.length f1 (ovL ms 9 (k + 1)) ∧ ((((wr.setCell ⟨g2, k * 2, none⟩ (S oth)).setCell ⟨g2, k * 2 + 1, none⟩ (.int .i64 9)).alloc (.cells #[S bhd, .int .i64 ((k : Int) - (ms.length : Int))] 110 (0, 0))).drew).heap[sb]? = some (.cells #[.slice a1 ls.length c1, .int .i64 df, .slice a2 ms.length c2, .bool op] 50 (0, 0)) ∧ KeptBut sb g1 g2 wx ((((wr.setCell ⟨g2, k * 2, none⟩ (S oth)).setCell ⟨g2, k * 2 + 1, none⟩ (.int .i64 9)).alloc (.cells #[S bhd, .int .i64 ((k : Int) - (ms.length : Int))] 110 (0, 0))).drew)) :=
              ⟨((hLo.over2 hlt o1 fun i _ hi => o2 i hi).below ((Below.refl _ _).alloc (Nat.le_refl _) _)).drew, (Below.heap_alloc _ _ _ (by simpa using lt)).trans (((Below.heap_setCell _ _ _ _ (by simpa using nsb2.symm)).trans (Below.heap_setCell _ _ _ _ (by simpa using nsb2.symm))).trans hS), hKp.over (.inr rfl) lt _ _ _ _ _⟩
            clear hLo hS HI hKp
            unfold S bhd at r0
            unfold S oth bhd at H4
            go_wp2_with fail
            go_region
            all_goals go_wp2_with fail
            all_goals go_roundw
            case rel => first | exact ⟨k + 1, by omega, by simp, by simp, H4.out⟩ | ((repeat apply Exists.intro); exact ⟨⟨k + 1, by omega, by simp, by simp, H4.out⟩, rfl⟩)
            case measure => simp [intOf]; omega
        · have hke : k = ms.length + 8 := by omega
          subst hke
          have hq : ((ms.length + 8 : Nat) : Int) = (ms.length : Int) + 8 := by omega
          have HB : Hid (Below w.heap.size w wr ∧ KeptBut sb g1 g2 wx wr) := ⟨hLo.bl, hKp⟩
          clear HI hLo hS hKp
          go_wp2_with fail
          go_ret
          exact ⟨rfl, HB.out.1, by rw [HSZ.out]; exact HB.out.2⟩
end Go.Proofs.YtfkdailfcmnjlaaGreatDoor

namespace Go.Proofs.YtfkdailfcmnjlaaGreatDoor
open Go Go.RowKit
set_option maxRecDepth 100000

/-- A type's letter. -/
def tyC (t : Nat) : UInt8 := if t = 0 then 45 else if t = 1 then 110 else if t = 2 then 116 else 109
/-- A stack's types, as letters, the lowest first; the cells'. -/
def stS (st : List Nat) : List UInt8 := st.reverse.map tyC
def clS (cl : List Nat) : List UInt8 := cl.map tyC
theorem stS_cons (t : Nat) (st : List Nat) : stS (t :: st) = stS st ++ [tyC t] := by simp [stS]
theorem stS_len (st : List Nat) : (stS st).length = st.length := by simp [stS]
theorem clS_len (cl : List Nat) : (clS cl).length = cl.length := by simp [clS]
/-- Types are below four; a stack has none of those that are not known. -/
def Tys (l : List Nat) : Prop := ∀ t ∈ l, t < 4
def Tys1 (l : List Nat) : Prop := ∀ t ∈ l, 1 ≤ t ∧ t < 4
theorem tyC_inj {a b : Nat} (ha : a < 4) (hb : b < 4) (h : tyC a = tyC b) : a = b := by
  have e1 : a = 0 ∨ a = 1 ∨ a = 2 ∨ a = 3 := by omega
  have e2 : b = 0 ∨ b = 1 ∨ b = 2 ∨ b = 3 := by omega
  rcases e1 with rfl | rfl | rfl | rfl <;> rcases e2 with rfl | rfl | rfl | rfl <;> first | rfl | (exfalso; revert h; decide)
theorem map_tyC_inj : ∀ {a b : List Nat}, Tys a → Tys b → a.map tyC = b.map tyC → a = b
  | [], [], _, _, _ => rfl
  | [], y :: s, _, _, h => by simp at h
  | x :: r, [], _, _, h => by simp at h
  | x :: r, y :: s, ha, hb, h => by
    simp only [List.map_cons, List.cons.injEq] at h
    rw [tyC_inj (ha x (by simp)) (hb y (by simp)) h.1, map_tyC_inj (fun t ht => ha t (by simp [ht])) (fun t ht => hb t (by simp [ht])) h.2]
theorem stS_inj {a b : List Nat} (ha : Tys1 a) (hb : Tys1 b) (h : stS a = stS b) : a = b := by
  have := map_tyC_inj (a := a.reverse) (b := b.reverse) (fun t ht => (ha t (by simpa using ht)).2) (fun t ht => (hb t (by simpa using ht)).2) h
  simpa using this
end Go.Proofs.YtfkdailfcmnjlaaGreatDoor

namespace Go.Proofs.YtfkdailfcmnjlaaGreatDoor
open Go Go.RowKit
set_option maxRecDepth 100000
attribute [local go_sem ↓] Go.wp_at_zero Go.wp_at_succ

set_option maxHeartbeats 1000000 in
theorem size_any (op : Nat) (h : op < 256) (w : World) : Calls Tryz.prog 49 #[.int .u8 op] w fun e w' => e = .returned (.int .i64 (sizeOp op)) ∧ w' = w := by
  go_enter Tryz.func49, Tryz.ntmps49
  go_wp2
  all_goals go_ret
  all_goals refine ⟨ret_int ?_, rfl⟩
  all_goals (simp only [beq_iff_eq, beq_eq_false_iff_ne, ne_eq] at *; unfold sizeOp; repeat' split) <;> first | rfl | omega
set_option maxHeartbeats 1000000 in
theorem bound_any (op cells : Nat) (h : op < 256) (hc : cells < 256) (w : World) : Calls Tryz.prog 95 #[.int .u8 op, .int .i64 cells] w fun e w' => e = .returned (.int .i64 (boundOp op cells)) ∧ w' = w := by
  go_enter Tryz.func95, Tryz.ntmps95
  go_wp2
  all_goals go_ret
  all_goals refine ⟨ret_int ?_, rfl⟩
  all_goals (simp only [beq_iff_eq, beq_eq_false_iff_ne, ne_eq] at *; unfold boundOp; repeat' split) <;> first | rfl | omega
theorem app_ba (a b : List UInt8) : (ByteArray.mk a.toArray) ++ (ByteArray.mk b.toArray) = ⟨(a ++ b).toArray⟩ := by
  apply ByteArray.ext; simp
/-- What 'takes' answers. -/
def takesS (stack types more : List UInt8) : Option (List UInt8) := if types.length ≤ stack.length ∧ stack.drop (stack.length - types.length) = types then some (stack.take (stack.length - types.length) ++ more) else none
def takesV (r : Option (List UInt8)) : Value := match r with
  | some s => .tuple #[S s, .bool true]
  | none => .tuple #[S [], .bool false]
set_option maxHeartbeats 1000000 in
theorem takes_any (stack types more : List UInt8) (h1 : stack.length ≤ 10000) (h2 : types.length ≤ 10000) (h3 : more.length ≤ 10000) (w : World) : Calls Tryz.prog 96 #[S stack, S types, S more] w fun e w' => e = .returned (takesV (takesS stack types more)) ∧ w' = w := by
  have ht : ({ data := stack.toArray } : ByteArray).extract (stack.length - types.length) stack.length = ⟨(stack.drop (stack.length - types.length)).toArray⟩ := by
    rw [cut_ex]; unfold cut; rw [List.take_of_length_le (by simp)]
  have ht2 : ({ data := stack.toArray } : ByteArray).extract 0 (stack.length - types.length) = ⟨(stack.take (stack.length - types.length)).toArray⟩ := by
    rw [cut_ex]; unfold cut; simp
  have HT : Hid (takesS stack types more = if types.length ≤ stack.length ∧ stack.drop (stack.length - types.length) = types then some (stack.take (stack.length - types.length) ++ more) else none) := rfl
  have HT1 : Hid _ := ht
  have HT2 : Hid _ := ht2
  clear ht ht2
  generalize takesS stack types more = r at *
  by_cases hl : types.length ≤ stack.length
  · have hl' : ((stack.length : Int) - types.length).toNat = stack.length - types.length := by omega
    by_cases he : stack.drop (stack.length - types.length) = types
    · have hr : Hid _ := HT.out.trans (if_pos ⟨hl, he⟩)
      clear HT
      go_enter Tryz.func96, Tryz.ntmps96
      go_wp2
      all_goals go_ret2
      · exfalso
        rename_i h0
        rw [HT1.out, ByteArray.toList_mk] at h0
        simp [he] at h0; omega
      · refine ⟨?_, rfl⟩
        rw [hr.out, takesV]
        simp [ByteArray.toList_mk, HT2.out, app_ba]
    · have hr : Hid _ := HT.out.trans (if_neg (fun h => he h.2))
      clear HT
      go_enter Tryz.func96, Tryz.ntmps96
      go_wp2
      all_goals go_ret2
      · exact ⟨by rw [hr.out]; rfl, rfl⟩
      · exfalso
        rename_i h0
        rw [HT1.out, ByteArray.toList_mk] at h0
        simp [he] at h0
  · have hr : Hid _ := HT.out.trans (if_neg (fun h => hl h.1))
    clear HT
    go_enter Tryz.func96, Tryz.ntmps96
    go_wp2
    all_goals go_ret2
    exact ⟨by rw [hr.out]; rfl, rfl⟩
end Go.Proofs.YtfkdailfcmnjlaaGreatDoor
