/-
  The law's loan of a state. The law's loan comes back.
-/
import Derived.Test.YtfkdailfcmnjlaaDoorJA
import Derived.Test.YtfkdailfcmnjlaaDoorJB
import Derived.Test.YtfkdailfcmnjlaaDoorJC
import Derived.Deep.DeepCutAuto
import Derived.Deep.RegionHeld3
set_option linter.unusedVariables false
set_option linter.unusedSimpArgs false
namespace Go.Proofs.YtfkdailfcmnjlaaDoor
open Go Go.RowKit
set_option maxRecDepth 100000
attribute [local go_sem ↓] Go.wp_at_zero Go.wp_at_succ

/-- What the loan lies in. -/
structure LoanAt (w wx : World) (lb g1 g2 n m : Nat) (f1 f2 : Nat → List UInt8 × Int) : Prop where
  bl : Below w.heap.size w wx
  p1 : w.heap.size + 1 < g1
  p2 : w.heap.size + 1 < g2
  p3 : w.heap.size + 1 < lb
  n12 : g1 ≠ g2
  n13 : g1 ≠ lb
  n23 : g2 ≠ lb
  loan : wx.heap[lb]? = some (.cells #[.slice (some ⟨g1, 0, none⟩) (n + 8) (n + 8), .slice (some ⟨g2, 0, none⟩) (m + 8) (m + 8)] 86 (0, 0))
  row1 : PairRow wx g1 77 (n + 8) f1
  row2 : PairRow wx g2 79 (m + 8) f2
theorem LoanAt.set {w wx : World} {lb g1 g2 n m : Nat} {f1 f2 : Nat → List UInt8 × Int} (h : LoanAt w wx lb g1 g2 n m f1 f2) (j : Nat) (v : Value) : LoanAt w (wx.setCell ⟨w.heap.size + 1, j, none⟩ v) lb g1 g2 n m f1 f2 := by
  have e1 := h.p1
  have e2 := h.p2
  have e3 := h.p3
  exact ⟨h.bl.setCell (by simp) _, h.p1, h.p2, h.p3, h.n12, h.n13, h.n23, (Below.heap_setCell _ _ _ _ (by simp; omega)).trans h.loan, h.row1.of_block (Below.heap_setCell _ _ _ _ (by simp; omega)), h.row2.of_block (Below.heap_setCell _ _ _ _ (by simp; omega))⟩
theorem LoanAt.drew {w wx : World} {lb g1 g2 n m : Nat} {f1 f2 : Nat → List UInt8 × Int} (h : LoanAt w wx lb g1 g2 n m f1 f2) : LoanAt w wx.drew lb g1 g2 n m f1 f2 :=
  ⟨h.bl.drew, h.p1, h.p2, h.p3, h.n12, h.n13, h.n23, h.loan, h.row1.of_block rfl, h.row2.of_block rfl⟩
theorem LoanAt.below {w wx wy : World} {lb g1 g2 n m : Nat} {f1 f2 : Nat → List UInt8 × Int} (h : LoanAt w wx lb g1 g2 n m f1 f2) (hb : Below wx.heap.size wx wy) : LoanAt w wy lb g1 g2 n m f1 f2 := by
  obtain ⟨cs1, hc1, _⟩ := h.row1.blk
  obtain ⟨cs2, hc2, _⟩ := h.row2.blk
  exact ⟨h.bl.trans (hb.mono h.bl.size), h.p1, h.p2, h.p3, h.n12, h.n13, h.n23, (hb.block _ (lt_of_get h.loan)).trans h.loan, h.row1.of_block (hb.block _ (lt_of_get hc1)), h.row2.of_block (hb.block _ (lt_of_get hc2))⟩
theorem loan_made (w : World) (n m lb g1 g2 : Nat) {st z : Array Value} {o1 o2 : Obj} (h : (g1 = w.heap.size + 1 + 1 ∧ g2 = w.heap.size + 1 + 1 + 1 ∧ lb = w.heap.size + 1 + 1 + 1 + 1 ∧ o1 = .cells (madeCells #[.string ⟨#[]⟩, .int .i64 0] ((n + 8) * 2)) 77 (0, 0) ∧ o2 = .cells (madeCells #[.string ⟨#[]⟩, .int .i64 0] ((m + 8) * 2)) 79 (0, 0)) ∨ (g1 = w.heap.size + 1 + 1 + 1 ∧ g2 = w.heap.size + 1 + 1 ∧ lb = w.heap.size + 1 + 1 + 1 + 1 ∧ o2 = .cells (madeCells #[.string ⟨#[]⟩, .int .i64 0] ((n + 8) * 2)) 77 (0, 0) ∧ o1 = .cells (madeCells #[.string ⟨#[]⟩, .int .i64 0] ((m + 8) * 2)) 79 (0, 0))) :
    LoanAt w ((((((w.alloc (.cells st 27 (0, 0))).alloc (.cells z 27 (0, 0))).alloc o1).alloc o2).alloc (.cells #[.slice (some ⟨g1, 0, none⟩) (n + 8) (n + 8), .slice (some ⟨g2, 0, none⟩) (m + 8) (m + 8)] 86 (0, 0))).drew) lb g1 g2 n m (fun _ => ([], 0)) (fun _ => ([], 0)) ∧
    ((((((w.alloc (.cells st 27 (0, 0))).alloc (.cells z 27 (0, 0))).alloc o1).alloc o2).alloc (.cells #[.slice (some ⟨g1, 0, none⟩) (n + 8) (n + 8), .slice (some ⟨g2, 0, none⟩) (m + 8) (m + 8)] 86 (0, 0))).drew).heap[w.heap.size]? = some (.cells st 27 (0, 0)) ∧
    ((((((w.alloc (.cells st 27 (0, 0))).alloc (.cells z 27 (0, 0))).alloc o1).alloc o2).alloc (.cells #[.slice (some ⟨g1, 0, none⟩) (n + 8) (n + 8), .slice (some ⟨g2, 0, none⟩) (m + 8) (m + 8)] 86 (0, 0))).drew).heap[w.heap.size + 1]? = some (.cells z 27 (0, 0)) := by
  generalize hol : (Obj.cells #[.slice (some ⟨g1, 0, none⟩) (n + 8) (n + 8), .slice (some ⟨g2, 0, none⟩) (m + 8) (m + 8)] 86 (0, 0)) = ol
  have b0 : ∀ k, k < w.heap.size + 1 + 1 → (((((w.alloc (.cells st 27 (0, 0))).alloc (.cells z 27 (0, 0))).alloc o1).alloc o2).alloc ol).drew.heap[k]? = ((w.alloc (.cells st 27 (0, 0))).alloc (.cells z 27 (0, 0))).heap[k]? := fun k hk => by
    show (((((w.alloc (.cells st 27 (0, 0))).alloc (.cells z 27 (0, 0))).alloc o1).alloc o2).alloc ol).heap[k]? = _
    rw [Below.heap_alloc _ _ _ (by simp; omega), Below.heap_alloc _ _ _ (by simp; omega), Below.heap_alloc _ _ _ (by simp; omega)]
  have e1 : (((((w.alloc (.cells st 27 (0, 0))).alloc (.cells z 27 (0, 0))).alloc o1).alloc o2).alloc ol).drew.heap[w.heap.size + 1 + 1]? = some o1 := by
    show (((((w.alloc (.cells st 27 (0, 0))).alloc (.cells z 27 (0, 0))).alloc o1).alloc o2).alloc ol).heap[_]? = _
    rw [Below.heap_alloc _ _ _ (by simp), Below.heap_alloc _ _ _ (by simp)]
    have e := heap_alloc_new ((w.alloc (.cells st 27 (0, 0))).alloc (.cells z 27 (0, 0))) o1; simp only [World.size_alloc] at e; exact e
  have e2 : (((((w.alloc (.cells st 27 (0, 0))).alloc (.cells z 27 (0, 0))).alloc o1).alloc o2).alloc ol).drew.heap[w.heap.size + 1 + 1 + 1]? = some o2 := by
    show (((((w.alloc (.cells st 27 (0, 0))).alloc (.cells z 27 (0, 0))).alloc o1).alloc o2).alloc ol).heap[_]? = _
    rw [Below.heap_alloc _ _ _ (by simp)]
    have e := heap_alloc_new (((w.alloc (.cells st 27 (0, 0))).alloc (.cells z 27 (0, 0))).alloc o1) o2; simp only [World.size_alloc] at e; exact e
  have e3 : (((((w.alloc (.cells st 27 (0, 0))).alloc (.cells z 27 (0, 0))).alloc o1).alloc o2).alloc ol).drew.heap[w.heap.size + 1 + 1 + 1 + 1]? = some ol := by
    have e := heap_alloc_new ((((w.alloc (.cells st 27 (0, 0))).alloc (.cells z 27 (0, 0))).alloc o1).alloc o2) ol; simp only [World.size_alloc] at e; exact e
  have hB : Below w.heap.size w (((((w.alloc (.cells st 27 (0, 0))).alloc (.cells z 27 (0, 0))).alloc o1).alloc o2).alloc ol).drew := ((((((Below.refl _ _).alloc (Nat.le_refl _) _).alloc (by simp) _).alloc (by simp; omega) _).alloc (by simp; omega) _).alloc (by simp; omega) _).drew
  have hs : (((((w.alloc (.cells st 27 (0, 0))).alloc (.cells z 27 (0, 0))).alloc o1).alloc o2).alloc ol).drew.heap[w.heap.size]? = some (.cells st 27 (0, 0)) := by
    rw [b0 _ (by omega), Below.heap_alloc _ _ _ (by simp)]; exact heap_alloc_new w _
  have hz : (((((w.alloc (.cells st 27 (0, 0))).alloc (.cells z 27 (0, 0))).alloc o1).alloc o2).alloc ol).drew.heap[w.heap.size + 1]? = some (.cells z 27 (0, 0)) := by
    rw [b0 _ (by omega)]
    have e := heap_alloc_new (w.alloc (.cells st 27 (0, 0))) (.cells z 27 (0, 0)); rw [World.size_alloc] at e; exact e
  refine ⟨?_, hs, hz⟩
  rcases h with ⟨rfl, rfl, rfl, rfl, rfl⟩ | ⟨rfl, rfl, rfl, rfl, rfl⟩
  · exact ⟨hB, by omega, by omega, by omega, by omega, by omega, by omega, e3.trans (by rw [hol]), made_pair e1, made_pair e2⟩
  · exact ⟨hB, by omega, by omega, by omega, by omega, by omega, by omega, e3.trans (by rw [hol]), made_pair e2, made_pair e1⟩
set_option maxHeartbeats 4000000 in
theorem lend_any {lv mv : Value} (s : Stt) (w : World) (h1 : PairsAt lv s.levels w) (h2 : PairsAt mv s.members w) (hl : s.levels.length ≤ 5900000000000) (hm : s.members.length ≤ 5900000000000) :
    Calls Tryd.prog 17 #[sttV lv mv s] w fun en w' => ∃ lb g1 g2, en = .returned (.tuple #[.pointer (some ⟨lb, 0, none⟩), .agg #[.slice (some ⟨g1, 0, none⟩) s.levels.length (s.levels.length + 8), .int .i64 s.dflt, .slice (some ⟨g2, 0, none⟩) s.members.length (s.members.length + 8), .bool s.open_]]) ∧ LoanAt w w' lb g1 g2 s.levels.length s.members.length (entL s.levels 8) (entL s.members 8) := by
  unfold sttV
  obtain ⟨_, a1, c1, rfl, hc1⟩ := h1
  obtain ⟨_, a2, c2, rfl, hc2⟩ := h2
  obtain ⟨ls, df, ms, op⟩ := s
  simp only [] at *
  have hmk1 := run_make_wide (P := Tryd.prog) 24 77 (.agg #[.string ⟨#[]⟩, .int .i64 0]) 2 24 Tryd.underlying24 info_level .i64 .i64 (ls.length + 8) (by omega) (by omega)
  have hmk2 := run_make_wide (P := Tryd.prog) 25 79 (.agg #[.string ⟨#[]⟩, .int .i64 0]) 2 24 Tryd.underlying25 info_member .i64 .i64 (ms.length + 8) (by omega) (by omega)
  have q1 : ((ls.length + 8 : Nat) : Int) = (ls.length : Int) + 8 := by omega
  have q2 : ((ms.length + 8 : Nat) : Int) = (ms.length : Int) + 8 := by omega
  rw [q1] at hmk1
  rw [q2] at hmk2
  clear q1 q2
  have hst : ∀ j, ((w.alloc (.cells #[.slice a1 ls.length c1, .int .i64 df, .slice a2 ms.length c2, .bool op] 27)).alloc (.cells #[.slice none 0 0, .int .i64 0, .slice none 0 0, .bool false] 27)).cell? ⟨w.heap.size, j, none⟩ = (#[.slice a1 ls.length c1, .int .i64 df, .slice a2 ms.length c2, .bool op] : Array Value)[j]? := fun j => by
    rw [cell_of_row _ w.heap.size j _ _ _ (by rw [Below.heap_alloc _ _ _ (by simp)]; exact heap_alloc_new w _)]
  have s0 := hst 0
  have s1 := hst 1
  have s2 := hst 2
  have s3 := hst 3
  clear hst
  simp only [List.getElem?_toArray, List.getElem?_cons_zero, List.getElem?_cons_succ] at s0 s1 s2 s3
  have HC1 : Hid _ := hc1
  have HC2 : Hid _ := hc2
  clear hc1 hc2
  go_enter Tryd.func17, Tryd.ntmps17
  go_wp2_with fail
  go_cut [4] (fun lp wx => ∃ lb g1 g2, lp = .pointer (some ⟨lb, 0, none⟩) ∧ LoanAt w wx lb g1 g2 ls.length ms.length (fun _ => ([], 0)) (fun _ => ([], 0)) ∧ wx.heap[w.heap.size]? = some (.cells #[.slice a1 ls.length c1, .int .i64 df, .slice a2 ms.length c2, .bool op] 27 (0, 0)) ∧ wx.heap[w.heap.size + 1]? = some (.cells #[.slice none 0 0, .int .i64 0, .slice none 0 0, .bool false] 27 (0, 0)))
  case first =>
    go_region
    all_goals go_wp2_with fail
    all_goals go_meet
    · refine ⟨w.heap.size + 1 + 1 + 1 + 1, w.heap.size + 1 + 1, w.heap.size + 1 + 1 + 1, rfl, ?_⟩
      exact loan_made w _ _ _ _ _ (.inl ⟨rfl, rfl, rfl, rfl, rfl⟩)
    · refine ⟨w.heap.size + 1 + 1 + 1 + 1, w.heap.size + 1 + 1 + 1, w.heap.size + 1 + 1, rfl, ?_⟩
      exact loan_made w _ _ _ _ _ (.inr ⟨rfl, rfl, rfl, rfl, rfl⟩)
  case rest =>
    obtain ⟨lb, g1, g2, rfl, hLo, hS, hZ⟩ := hcut
    go_wp2_with fail
    have l0 : wc.cell? ⟨lb, 0, none⟩ = _ := cell_of_row wc lb 0 _ _ _ hLo.loan
    have t0 : wc.cell? ⟨w.heap.size, 0, none⟩ = _ := cell_of_row wc w.heap.size 0 _ _ _ hS
    simp only [List.getElem?_toArray, List.getElem?_cons_zero, List.getElem?_cons_succ] at l0 t0
    have hth := hLo.row1.there (n := (pcells ls).length) (by rw [pcells_len]; omega)
    have hsrc : 0 < (pcells ls).length → ∃ ad, a1 = some ad ∧ ∀ j v, (pcells ls)[j]? = some v → wc.cell? (ad.add j) = some v := pcells_src fun i hi => by
      obtain ⟨b, o, e, x0, x1, x2⟩ := HC1.out i hi
      exact ⟨b, o, e, by rw [hLo.bl.cell (p := ⟨b, o + i * 2, none⟩) (World.block_lt_of_cell? w _ x0)]; exact x0, by rw [hLo.bl.cell (p := ⟨b, o + i * 2 + 1, none⟩) (World.block_lt_of_cell? w _ x1)]; exact x1, x2⟩
    have hn1 : (pcells ls).length = Nat.min ls.length (ls.length + 8) * 2 := by
      rw [pcells_len]; congr 1; exact (Nat.min_eq_left (by omega)).symm
    have H2 : Hid (LoanAt w (wc.drew.setCells g1 0 (pcells ls)) lb g1 g2 ls.length ms.length (entL ls 0) (fun _ => ([], 0)) ∧ (wc.drew.setCells g1 0 (pcells ls)).heap[w.heap.size]? = some (.cells #[.slice a1 ls.length c1, .int .i64 df, .slice a2 ms.length c2, .bool op] 27 (0, 0)) ∧ (wc.drew.setCells g1 0 (pcells ls)).heap[w.heap.size + 1]? = some (.cells #[.slice none 0 0, .int .i64 0, .slice none 0 0, .bool false] 27 (0, 0))) := by
      have e1 := hLo.p1
      refine ⟨⟨below_cells (by omega) _ _ hLo.bl.drew, hLo.p1, hLo.p2, hLo.p3, hLo.n12, hLo.n13, hLo.n23, ?_, ?_, ?_⟩, ?_, ?_⟩
      · rw [heap_setCells_far (Ne.symm hLo.n13)]; exact hLo.loan
      · have := (hLo.row1.of_block (w' := wc.drew) rfl).copied ls (by omega)
        refine ⟨this.blk, fun j hj => ?_, fun j hj => ?_⟩
        · rw [this.fst j hj]; unfold entL; split
          · rfl
          · rw [if_neg (by omega)]
        · rw [this.snd j hj]; unfold entL; split
          · rfl
          · rw [if_neg (by omega)]
      · exact hLo.row2.of_block (heap_setCells_far (Ne.symm hLo.n12) _ _ _)
      · rw [heap_setCells_far (by omega)]; exact hS
      · rw [heap_setCells_far (by omega)]; exact hZ
    clear hLo hS hZ
    go_cut [4] (fun lp wx => lp = .pointer (some ⟨lb, 0, none⟩) ∧ wx = wc.drew.setCells g1 0 (pcells ls))
    case first =>
      go_region_law ((refine step_copy_wide rfl _ _ 24 24 rfl 77 Tryd.underlying24 2 (by kernel_rfl) g1 0 (ls.length + 8) (ls.length + 8) a1 ls.length c1 (by rfl) (by rfl) (pcells ls) hn1 hsrc hth.1 hth.2 (pcells_one ls) ?_))
      all_goals (go_wp2_with fail; go_meet; exact ⟨rfl, rfl⟩)
    case rest =>
      obtain ⟨rfl, hwc2⟩ := hcut
      rw [← hwc2] at H2
      clear hwc2 hth hsrc hn1 l0 t0
      obtain ⟨hLo, hS, hZ⟩ := H2.out
      clear H2
      go_wp2_with fail
      have l0 : wc.cell? ⟨lb, 1, none⟩ = _ := cell_of_row wc lb 1 _ _ _ hLo.loan
      have t0 : wc.cell? ⟨w.heap.size, 2, none⟩ = _ := cell_of_row wc w.heap.size 2 _ _ _ hS
      simp only [List.getElem?_toArray, List.getElem?_cons_zero, List.getElem?_cons_succ] at l0 t0
      have hth := hLo.row2.there (n := (pcells ms).length) (by rw [pcells_len]; omega)
      have hsrc : 0 < (pcells ms).length → ∃ ad, a2 = some ad ∧ ∀ j v, (pcells ms)[j]? = some v → wc.cell? (ad.add j) = some v := pcells_src fun i hi => by
        obtain ⟨b, o, e, x0, x1, x2⟩ := HC2.out i hi
        exact ⟨b, o, e, by rw [hLo.bl.cell (p := ⟨b, o + i * 2, none⟩) (World.block_lt_of_cell? w _ x0)]; exact x0, by rw [hLo.bl.cell (p := ⟨b, o + i * 2 + 1, none⟩) (World.block_lt_of_cell? w _ x1)]; exact x1, x2⟩
      have hn1 : (pcells ms).length = Nat.min ms.length (ms.length + 8) * 2 := by
        rw [pcells_len]; congr 1; exact (Nat.min_eq_left (by omega)).symm
      have H2 : Hid (LoanAt w (wc.drew.setCells g2 0 (pcells ms)) lb g1 g2 ls.length ms.length (entL ls 0) (entL ms 0) ∧ (wc.drew.setCells g2 0 (pcells ms)).heap[w.heap.size]? = some (.cells #[.slice a1 ls.length c1, .int .i64 df, .slice a2 ms.length c2, .bool op] 27 (0, 0)) ∧ (wc.drew.setCells g2 0 (pcells ms)).heap[w.heap.size + 1]? = some (.cells #[.slice none 0 0, .int .i64 0, .slice none 0 0, .bool false] 27 (0, 0))) := by
        have e1 := hLo.p2
        refine ⟨⟨below_cells (by omega) _ _ hLo.bl.drew, hLo.p1, hLo.p2, hLo.p3, hLo.n12, hLo.n13, hLo.n23, ?_, ?_, ?_⟩, ?_, ?_⟩
        · rw [heap_setCells_far (Ne.symm hLo.n23)]; exact hLo.loan
        · exact hLo.row1.of_block (heap_setCells_far hLo.n12 _ _ _)
        · have := (hLo.row2.of_block (w' := wc.drew) rfl).copied ms (by omega)
          refine ⟨this.blk, fun j hj => ?_, fun j hj => ?_⟩
          · rw [this.fst j hj]; unfold entL; split
            · rfl
            · rw [if_neg (by omega)]
          · rw [this.snd j hj]; unfold entL; split
            · rfl
            · rw [if_neg (by omega)]
        · rw [heap_setCells_far (by omega)]; exact hS
        · rw [heap_setCells_far (by omega)]; exact hZ
      clear hLo hS hZ
      go_cut [4] (fun lp wx => lp = .pointer (some ⟨lb, 0, none⟩) ∧ wx = wc.drew.setCells g2 0 (pcells ms))
      case first =>
        go_region_law ((refine step_copy_wide rfl _ _ 25 25 rfl 79 Tryd.underlying25 2 (by kernel_rfl) g2 0 (ms.length + 8) (ms.length + 8) a2 ms.length c2 (by rfl) (by rfl) (pcells ms) hn1 hsrc hth.1 hth.2 (pcells_one ms) ?_))
        all_goals (go_wp2_with fail; go_meet; exact ⟨rfl, rfl⟩)
      case rest =>
        obtain ⟨rfl, hwc3⟩ := hcut
        rw [← hwc3] at H2
        clear hwc3 hth hsrc hn1 l0 t0 s0 s1 s2 s3 hmk1 hmk2 HC1 HC2
        go_wp2_with fail
        go_loopw [5] (fun iv wr => ∃ i : Nat, i ≤ 8 ∧ iv = .int .i64 i ∧ Hid (LoanAt w wr lb g1 g2 ls.length ms.length (entL ls i) (entL ms i) ∧ wr.heap[w.heap.size]? = some (.cells #[.slice a1 ls.length c1, .int .i64 df, .slice a2 ms.length c2, .bool op] 27 (0, 0)) ∧ wr.heap[w.heap.size + 1]? = some (.cells #[.slice none 0 0, .int .i64 0, .slice none 0 0, .bool false] 27 (0, 0)))) (fun iv _ => 8 - (intOf iv).toNat)
        case atStart => exact ⟨0, by omega, rfl, H2.out⟩
        case round =>
          obtain ⟨i, hi, rfl, HI⟩ := hrel
          by_cases hlt : i < 8
          · obtain ⟨hLo, hS, hZ⟩ := HI.out
            clear HI
            have l0 : wr.cell? ⟨lb, 0, none⟩ = _ := cell_of_row wr lb 0 _ _ _ hLo.loan
            have l1 : wr.cell? ⟨lb, 1, none⟩ = _ := cell_of_row wr lb 1 _ _ _ hLo.loan
            have t0 : wr.cell? ⟨w.heap.size, 0, none⟩ = _ := cell_of_row wr w.heap.size 0 _ _ _ hS
            have t2 : wr.cell? ⟨w.heap.size, 2, none⟩ = _ := cell_of_row wr w.heap.size 2 _ _ _ hS
            simp only [List.getElem?_toArray, List.getElem?_cons_zero, List.getElem?_cons_succ] at l0 l1 t0 t2
            have r0 := hLo.row1.fst (ls.length + i) (by omega)
            have r1 := hLo.row1.snd (ls.length + i) (by omega)
            have rf := hLo.row1.frz
            have qn : ((ls.length : Int) + (i : Int)).toNat = ls.length + i := by omega
            have b0 : (0 : Int) ≤ (ls.length : Int) + (i : Int) := by omega
            have b1 : (ls.length : Int) + (i : Int) < (ls.length : Int) + 8 := by omega
            have b2 : (i : Int) < 8 := by omega
            have b3 : ¬ ((ls.length : Int) + (i : Int) < 0) := by omega
            have ne1 : g1 ≠ lb := hLo.n13
            have ne2 : g1 ≠ w.heap.size := by have := hLo.p1; omega
            have hLo1 : LoanAt w (((wr.setCell ⟨g1, (ls.length + i) * 2, none⟩ (S bhd)).setCell ⟨g1, (ls.length + i) * 2 + 1, none⟩ (.int .i64 i)).drew) lb g1 g2 ls.length ms.length (entL ls (i + 1)) (entL ms i) := by
              have e1 := hLo.p1
              refine ⟨((hLo.bl.setCell (by simp; omega) _).setCell (by simp; omega) _).drew, hLo.p1, hLo.p2, hLo.p3, hLo.n12, hLo.n13, hLo.n23, ?_, ?_, ?_⟩
              · exact ((Below.heap_setCell _ _ _ _ (by simpa using Ne.symm ne1)).trans (Below.heap_setCell _ _ _ _ (by simpa using Ne.symm ne1))).trans hLo.loan
              · refine (hLo.row1.put (f' := entL ls (i + 1)) (j := ls.length + i) (by omega) (x := bhd) (y := (i : Int)) ?_ ?_).of_block rfl
                · unfold entL; rw [if_neg (by omega), if_pos (by omega), show ls.length + i - ls.length = i by omega]
                · intro q hq hne
                  unfold entL
                  split
                  · rfl
                  · by_cases e : q < ls.length + i
                    · rw [if_pos e, if_pos (by omega)]
                    · rw [if_neg e, if_neg (by omega)]
              · exact hLo.row2.of_block ((Below.heap_setCell _ _ _ _ (by simpa using Ne.symm hLo.n12)).trans (Below.heap_setCell _ _ _ _ (by simpa using Ne.symm hLo.n12)))
            have hS1 : (((wr.setCell ⟨g1, (ls.length + i) * 2, none⟩ (S bhd)).setCell ⟨g1, (ls.length + i) * 2 + 1, none⟩ (.int .i64 i)).drew).heap[w.heap.size]? = _ := ((Below.heap_setCell _ _ _ _ (by simpa using Ne.symm ne2)).trans (Below.heap_setCell _ _ _ _ (by simpa using Ne.symm ne2))).trans hS
            have hZ1 : (((wr.setCell ⟨g1, (ls.length + i) * 2, none⟩ (S bhd)).setCell ⟨g1, (ls.length + i) * 2 + 1, none⟩ (.int .i64 i)).drew).heap[w.heap.size + 1]? = _ := ((Below.heap_setCell _ _ _ _ (by have := hLo.p1; simp; omega)).trans (Below.heap_setCell _ _ _ _ (by have := hLo.p1; simp; omega))).trans hZ
            have H3 : Hid _ := And.intro hLo1 (And.intro hS1 hZ1)
            clear hLo1 hS1 hZ1 hLo hS hZ
            unfold S bhd at H3
            go_wp2_with fail
            go_region
            go_wp2_with fail
            generalize hw1 : (((wr.setCell ⟨g1, (ls.length + i) * 2, none⟩ (.string ⟨#[98, 101, 104, 105, 110, 100]⟩)).setCell ⟨g1, (ls.length + i) * 2 + 1, none⟩ (.int .i64 i)).drew) = w1 at *
            clear hw1 l0 l1 t0 t2 r0 r1 rf qn b0 b1 b2 b3 ne1 ne2
            obtain ⟨hLo, hS, hZ⟩ := H3.out
            clear H3
            have l0 : w1.cell? ⟨lb, 0, none⟩ = _ := cell_of_row w1 lb 0 _ _ _ hLo.loan
            have l1 : w1.cell? ⟨lb, 1, none⟩ = _ := cell_of_row w1 lb 1 _ _ _ hLo.loan
            have t0 : w1.cell? ⟨w.heap.size, 0, none⟩ = _ := cell_of_row w1 w.heap.size 0 _ _ _ hS
            have t2 : w1.cell? ⟨w.heap.size, 2, none⟩ = _ := cell_of_row w1 w.heap.size 2 _ _ _ hS
            simp only [List.getElem?_toArray, List.getElem?_cons_zero, List.getElem?_cons_succ] at l0 l1 t0 t2
            have r0 := hLo.row2.fst (ms.length + i) (by omega)
            have r1 := hLo.row2.snd (ms.length + i) (by omega)
            have rf := hLo.row2.frz
            have qn : ((ms.length : Int) + (i : Int)).toNat = ms.length + i := by omega
            have b0 : (0 : Int) ≤ (ms.length : Int) + (i : Int) := by omega
            have b1 : (ms.length : Int) + (i : Int) < (ms.length : Int) + 8 := by omega
            have b2 : (i : Int) < 8 := by omega
            have b3 : ¬ ((ms.length : Int) + (i : Int) < 0) := by omega
            have ne1 : g2 ≠ lb := hLo.n23
            have ne2 : g2 ≠ w.heap.size := by have := hLo.p2; omega
            have hLo1 : LoanAt w (((w1.setCell ⟨g2, (ms.length + i) * 2, none⟩ (S bhd)).setCell ⟨g2, (ms.length + i) * 2 + 1, none⟩ (.int .i64 i)).drew) lb g1 g2 ls.length ms.length (entL ls (i + 1)) (entL ms (i + 1)) := by
              have e1 := hLo.p2
              refine ⟨((hLo.bl.setCell (by simp; omega) _).setCell (by simp; omega) _).drew, hLo.p1, hLo.p2, hLo.p3, hLo.n12, hLo.n13, hLo.n23, ?_, ?_, ?_⟩
              · exact ((Below.heap_setCell _ _ _ _ (by simpa using Ne.symm ne1)).trans (Below.heap_setCell _ _ _ _ (by simpa using Ne.symm ne1))).trans hLo.loan
              · exact hLo.row1.of_block ((Below.heap_setCell _ _ _ _ (by simpa using hLo.n12)).trans (Below.heap_setCell _ _ _ _ (by simpa using hLo.n12)))
              · refine (hLo.row2.put (f' := entL ms (i + 1)) (j := ms.length + i) (by omega) (x := bhd) (y := (i : Int)) ?_ ?_).of_block rfl
                · unfold entL; rw [if_neg (by omega), if_pos (by omega), show ms.length + i - ms.length = i by omega]
                · intro q hq hne
                  unfold entL
                  split
                  · rfl
                  · by_cases e : q < ms.length + i
                    · rw [if_pos e, if_pos (by omega)]
                    · rw [if_neg e, if_neg (by omega)]
            have hS1 : (((w1.setCell ⟨g2, (ms.length + i) * 2, none⟩ (S bhd)).setCell ⟨g2, (ms.length + i) * 2 + 1, none⟩ (.int .i64 i)).drew).heap[w.heap.size]? = _ := ((Below.heap_setCell _ _ _ _ (by simpa using Ne.symm ne2)).trans (Below.heap_setCell _ _ _ _ (by simpa using Ne.symm ne2))).trans hS
            have hZ1 : (((w1.setCell ⟨g2, (ms.length + i) * 2, none⟩ (S bhd)).setCell ⟨g2, (ms.length + i) * 2 + 1, none⟩ (.int .i64 i)).drew).heap[w.heap.size + 1]? = _ := ((Below.heap_setCell _ _ _ _ (by have := hLo.p2; simp; omega)).trans (Below.heap_setCell _ _ _ _ (by have := hLo.p2; simp; omega))).trans hZ
            have H3 : Hid _ := And.intro hLo1 (And.intro hS1 hZ1)
            clear hLo1 hS1 hZ1 hLo hS hZ
            unfold S bhd at H3
            go_region
            go_wp2_with fail
            go_roundw
            case rel => exact ⟨i + 1, by omega, by simp, H3.out⟩
            case measure => simp [intOf]; omega
          · obtain rfl : i = 8 := by omega
            obtain ⟨hLo, hS, hZ⟩ := HI.out
            clear HI
            have l0 : wr.cell? ⟨lb, 0, none⟩ = _ := cell_of_row wr lb 0 _ _ _ hLo.loan
            have l1 : wr.cell? ⟨lb, 1, none⟩ = _ := cell_of_row wr lb 1 _ _ _ hLo.loan
            have t0 : wr.cell? ⟨w.heap.size, 0, none⟩ = _ := cell_of_row wr w.heap.size 0 _ _ _ hS
            have t1 : wr.cell? ⟨w.heap.size, 1, none⟩ = _ := cell_of_row wr w.heap.size 1 _ _ _ hS
            have t2 : wr.cell? ⟨w.heap.size, 2, none⟩ = _ := cell_of_row wr w.heap.size 2 _ _ _ hS
            have t3 : wr.cell? ⟨w.heap.size, 3, none⟩ = _ := cell_of_row wr w.heap.size 3 _ _ _ hS
            have z0 : wr.cell? ⟨w.heap.size + 1, 0, none⟩ = _ := cell_of_row wr (w.heap.size + 1) 0 _ _ _ hZ
            have z1 : wr.cell? ⟨w.heap.size + 1, 1, none⟩ = _ := cell_of_row wr (w.heap.size + 1) 1 _ _ _ hZ
            have z2 : wr.cell? ⟨w.heap.size + 1, 2, none⟩ = _ := cell_of_row wr (w.heap.size + 1) 2 _ _ _ hZ
            have z3 : wr.cell? ⟨w.heap.size + 1, 3, none⟩ = _ := cell_of_row wr (w.heap.size + 1) 3 _ _ _ hZ
            have zf : ∀ j, wr.frozen? ⟨w.heap.size + 1, j, none⟩ = false := fun j => by simp [World.frozen?, hZ]
            simp only [List.getElem?_toArray, List.getElem?_cons_zero, List.getElem?_cons_succ] at l0 l1 t0 t1 t2 t3 z0 z1 z2 z3
            have HLo : Hid (LoanAt w wr lb g1 g2 ls.length ms.length (entL ls 8) (entL ms 8)) := hLo
            have nb1 : ¬ ls.length + 8 = ls.length := by omega
            have nb2 : (ls.length : Int) ≤ (ls.length : Int) + 8 := by omega
            have nb3 : (ms.length : Int) ≤ (ms.length : Int) + 8 := by omega
            clear hLo hS hZ
            go_wp2_with fail
            go_region
            all_goals go_wp2_with fail
            all_goals refine bodyPost_ret (v := .tuple #[.pointer (some ⟨lb, 0, none⟩), .agg #[.slice (some ⟨g1, 0, none⟩) ls.length (ls.length + 8), .int .i64 df, .slice (some ⟨g2, 0, none⟩) ms.length (ms.length + 8), .bool op]]) (by simp [results, Tryd.results17, go_sem, z0, z1, z2, z3, zf]) rfl ⟨lb, g1, g2, rfl, ?_⟩
            all_goals exact ((((HLo.out.set 0 _).set 1 _).set 2 _).set 3 _).drew
end Go.Proofs.YtfkdailfcmnjlaaDoor

namespace Go.Proofs.YtfkdailfcmnjlaaDoor
open Go Go.RowKit
set_option maxRecDepth 100000
attribute [local go_sem ↓] Go.wp_at_zero Go.wp_at_succ

/-- What is written over. -/
def oth : List UInt8 := [111, 116, 104, 101, 114]
def ovL (ls : List (List UInt8 × Int)) (y : Int) (k : Nat) (j : Nat) : List UInt8 × Int := if j < k then (oth, y) else entL ls 8 j
theorem LoanAt.over1 {w wx : World} {lb g1 g2 n m : Nat} {f1 f2 f1' : Nat → List UInt8 × Int} (h : LoanAt w wx lb g1 g2 n m f1 f2) {j : Nat} (hj : j < n + 8) {x : List UInt8} {y : Int} (he : f1' j = (x, y)) (ho : ∀ i, i < n + 8 → i ≠ j → f1' i = f1 i) : LoanAt w ((wx.setCell ⟨g1, j * 2, none⟩ (S x)).setCell ⟨g1, j * 2 + 1, none⟩ (.int .i64 y)) lb g1 g2 n m f1' f2 := by
  have e1 := h.p1
  exact ⟨(h.bl.setCell (by simp; omega) _).setCell (by simp; omega) _, h.p1, h.p2, h.p3, h.n12, h.n13, h.n23, ((Below.heap_setCell _ _ _ _ (by simpa using Ne.symm h.n13)).trans (Below.heap_setCell _ _ _ _ (by simpa using Ne.symm h.n13))).trans h.loan, h.row1.put hj he ho, h.row2.of_block ((Below.heap_setCell _ _ _ _ (by simpa using Ne.symm h.n12)).trans (Below.heap_setCell _ _ _ _ (by simpa using Ne.symm h.n12)))⟩
theorem LoanAt.over2 {w wx : World} {lb g1 g2 n m : Nat} {f1 f2 f2' : Nat → List UInt8 × Int} (h : LoanAt w wx lb g1 g2 n m f1 f2) {j : Nat} (hj : j < m + 8) {x : List UInt8} {y : Int} (he : f2' j = (x, y)) (ho : ∀ i, i < m + 8 → i ≠ j → f2' i = f2 i) : LoanAt w ((wx.setCell ⟨g2, j * 2, none⟩ (S x)).setCell ⟨g2, j * 2 + 1, none⟩ (.int .i64 y)) lb g1 g2 n m f1 f2' := by
  have e1 := h.p2
  exact ⟨(h.bl.setCell (by simp; omega) _).setCell (by simp; omega) _, h.p1, h.p2, h.p3, h.n12, h.n13, h.n23, ((Below.heap_setCell _ _ _ _ (by simpa using Ne.symm h.n23)).trans (Below.heap_setCell _ _ _ _ (by simpa using Ne.symm h.n23))).trans h.loan, h.row1.of_block ((Below.heap_setCell _ _ _ _ (by simpa using h.n12)).trans (Below.heap_setCell _ _ _ _ (by simpa using h.n12))), h.row2.put hj he ho⟩
/-- All older memory but two rows is as it was. -/
def KeptBut (sb g1 g2 : Nat) (wx wr : World) : Prop := ∀ k, k < sb → k ≠ g1 → k ≠ g2 → wr.heap[k]? = wx.heap[k]?
theorem KeptBut.over {sb g1 g2 g : Nat} {wx wr : World} (h : KeptBut sb g1 g2 wx wr) (hg : g = g1 ∨ g = g2) (hs : sb < wr.heap.size) (i j : Nat) (v u : Value) (o : Obj) : KeptBut sb g1 g2 wx ((((wr.setCell ⟨g, i, none⟩ v).setCell ⟨g, j, none⟩ u).alloc o).drew) := fun k hk h1 h2 => by
  have hne : k ≠ g := by rcases hg with rfl | rfl <;> assumption
  show (((wr.setCell ⟨g, i, none⟩ v).setCell ⟨g, j, none⟩ u).alloc o).heap[k]? = _
  rw [Below.heap_alloc _ _ _ (by simp; omega), Below.heap_setCell _ _ _ _ (by simpa using hne), Below.heap_setCell _ _ _ _ (by simpa using hne)]
  exact h k hk h1 h2
theorem ov_step (ls : List (List UInt8 × Int)) (y : Int) (k : Nat) : ovL ls y (k + 1) k = (oth, y) ∧ (∀ i, i ≠ k → ovL ls y (k + 1) i = ovL ls y k i) ∧ ovL ls y k k = entL ls 8 k := by
  refine ⟨by unfold ovL; rw [if_pos (by omega)], fun i hi => ?_, by unfold ovL; rw [if_neg (by omega)]⟩
  unfold ovL
  by_cases h : i < k
  · rw [if_pos h, if_pos (by omega)]
  · rw [if_neg h, if_neg (by omega)]
set_option maxHeartbeats 8000000 in
theorem back_any {lv mv : Value} (s : Stt) (w wx : World) {lb g1 g2 : Nat} (h1 : PairsAt lv s.levels w) (h2 : PairsAt mv s.members w) (hl : s.levels.length ≤ 5900000000000) (hm : s.members.length ≤ 5900000000000) (hLo : LoanAt w wx lb g1 g2 s.levels.length s.members.length (entL s.levels 8) (entL s.members 8)) :
    Calls Tryd.prog 19 #[.pointer (some ⟨lb, 0, none⟩), sttV lv mv s] wx fun en w' => en = .returned (.bool true) ∧ Below w.heap.size w w' ∧ KeptBut wx.heap.size g1 g2 wx w' := by
  unfold sttV
  obtain ⟨_, a1, c1, rfl, hc1⟩ := h1
  obtain ⟨_, a2, c2, rfl, hc2⟩ := h2
  obtain ⟨ls, df, ms, op⟩ := s
  simp only [] at *
  have HC1 : Hid _ := hc1
  have HC2 : Hid _ := hc2
  have hsb : w.heap.size ≤ wx.heap.size := hLo.bl.size
  have H0 : Hid (LoanAt w (wx.alloc (.cells #[.slice a1 ls.length c1, .int .i64 df, .slice a2 ms.length c2, .bool op] 27 (0, 0))) lb g1 g2 ls.length ms.length (ovL ls 99 0) (entL ms 8) ∧ (wx.alloc (.cells #[.slice a1 ls.length c1, .int .i64 df, .slice a2 ms.length c2, .bool op] 27 (0, 0))).heap[wx.heap.size]? = some (.cells #[.slice a1 ls.length c1, .int .i64 df, .slice a2 ms.length c2, .bool op] 27 (0, 0)) ∧ KeptBut wx.heap.size g1 g2 wx (wx.alloc (.cells #[.slice a1 ls.length c1, .int .i64 df, .slice a2 ms.length c2, .bool op] 27 (0, 0)))) :=
    ⟨hLo.below ((Below.refl _ _).alloc (Nat.le_refl _) _), heap_alloc_new wx _, fun k hk _ _ => Below.heap_alloc wx _ k hk⟩
  have nsb1 : g1 ≠ wx.heap.size := by obtain ⟨cs, hc, _⟩ := hLo.row1.blk; have := lt_of_get hc; omega
  have nsb2 : g2 ≠ wx.heap.size := by obtain ⟨cs, hc, _⟩ := hLo.row2.blk; have := lt_of_get hc; omega
  clear hc1 hc2 hLo
  go_enter Tryd.func19, Tryd.ntmps19
  go_wp2_with fail
  generalize hwz : wx.alloc (.cells #[.slice a1 ls.length c1, .int .i64 df, .slice a2 ms.length c2, .bool op] 27 (0, 0)) = wz at *
  clear hwz
  generalize hsz : wx.heap.size = sb at *
  have HSZ : Hid _ := hsz
  clear hsz
  go_loopw [5, 6] (fun ov iv wr => ∃ k : Nat, k ≤ ls.length + 8 ∧ iv = .int .i64 k ∧ ov = .bool true ∧ Hid (LoanAt w wr lb g1 g2 ls.length ms.length (ovL ls 99 k) (entL ms 8) ∧ wr.heap[sb]? = some (.cells #[.slice a1 ls.length c1, .int .i64 df, .slice a2 ms.length c2, .bool op] 27 (0, 0)) ∧ KeptBut sb g1 g2 wx wr)) (fun _ iv _ => ls.length + 8 - (intOf iv).toNat)
  case atStart => exact ⟨0, by omega, rfl, rfl, H0.out⟩
  case round =>
    obtain ⟨k, hk, rfl, rfl, HI⟩ := hrel
    obtain ⟨hLo, hS, hKp⟩ := HI.out
    have l0 : wr.cell? ⟨lb, 0, none⟩ = _ := cell_of_row wr lb 0 _ _ _ hLo.loan
    have t0 : wr.cell? ⟨sb, 0, none⟩ = _ := cell_of_row wr sb 0 _ _ _ hS
    simp only [List.getElem?_toArray, List.getElem?_cons_zero, List.getElem?_cons_succ] at l0 t0
    by_cases hlt : k < ls.length + 8
    · obtain ⟨o1, o2, o3⟩ := ov_step ls 99 k
      have r0 := hLo.row1.fst k hlt
      have r1 := hLo.row1.snd k hlt
      have rf := hLo.row1.frz
      rw [o3] at r0 r1
      have hbk : (k : Int) < (ls.length : Int) + 8 := by omega
      have b0 : (0 : Int) ≤ (k : Int) := by omega
      by_cases hkn : k < ls.length
      · have hen : entL ls 8 k = ls.getD k ([], 0) := by unfold entL; rw [if_pos hkn]
        obtain ⟨b, o, rfl, x0, x1, x2⟩ := HC1.out k hkn
        have x0' : wr.cell? ⟨b, o + k * 2, none⟩ = some (S (ls.getD k ([], 0)).1) := by rw [hLo.bl.cell (p := ⟨b, o + k * 2, none⟩) (World.block_lt_of_cell? w _ x0)]; exact x0
        have x1' : wr.cell? ⟨b, o + k * 2 + 1, none⟩ = some (.int .i64 (ls.getD k ([], 0)).2) := by rw [hLo.bl.cell (p := ⟨b, o + k * 2 + 1, none⟩) (World.block_lt_of_cell? w _ x1)]; exact x1
        have lbx := World.block_lt_of_cell? wr _ x0'
        have lg := World.block_lt_of_cell? wr _ r0
        have ll := World.block_lt_of_cell? wr _ l0
        have lt := World.block_lt_of_cell? wr _ t0
        simp only [] at lbx lg ll lt
        rw [hen] at r0 r1
        clear x0 x1
        generalize ls.getD k ([], 0) = p at *
        have n1 : wr.heap.size ≠ b := by omega
        have n2 : wr.heap.size ≠ g1 := by omega
        have n3 : wr.heap.size ≠ lb := by omega
        have n4 : wr.heap.size ≠ sb := by omega
        have n1' := n1.symm
        have n2' := n2.symm
        have n3' := n3.symm
        have n4' := n4.symm
        have hbn : (k : Int) < (ls.length : Int) := by omega
        have H4 : Hid (LoanAt w ((((wr.setCell ⟨g1, k * 2, none⟩ (S oth)).setCell ⟨g1, k * 2 + 1, none⟩ (.int .i64 99)).alloc (.cells #[S p.1, .int .i64 p.2] 77 (0, 0))).drew) lb g1 g2 ls.length ms.length (ovL ls 99 (k + 1)) (entL ms 8) ∧ ((((wr.setCell ⟨g1, k * 2, none⟩ (S oth)).setCell ⟨g1, k * 2 + 1, none⟩ (.int .i64 99)).alloc (.cells #[S p.1, .int .i64 p.2] 77 (0, 0))).drew).heap[sb]? = some (.cells #[.slice (some ⟨b, o, none⟩) ls.length c1, .int .i64 df, .slice a2 ms.length c2, .bool op] 27 (0, 0)) ∧ KeptBut sb g1 g2 wx ((((wr.setCell ⟨g1, k * 2, none⟩ (S oth)).setCell ⟨g1, k * 2 + 1, none⟩ (.int .i64 99)).alloc (.cells #[S p.1, .int .i64 p.2] 77 (0, 0))).drew)) :=
          ⟨((hLo.over1 hlt o1 fun i _ hi => o2 i hi).below ((Below.refl _ _).alloc (Nat.le_refl _) _)).drew, (Below.heap_alloc _ _ _ (by simpa using lt)).trans (((Below.heap_setCell _ _ _ _ (by simpa using nsb1.symm)).trans (Below.heap_setCell _ _ _ _ (by simpa using nsb1.symm))).trans hS), hKp.over (.inl rfl) lt _ _ _ _ _⟩
        clear hLo hS HI hKp
        unfold S oth at H4
        go_wp2_with fail
        go_region
        all_goals go_wp2_with fail
        all_goals go_roundw
        case rel => first | exact ⟨k + 1, by omega, by simp, by simp, H4.out⟩ | ((repeat apply Exists.intro); exact ⟨⟨k + 1, by omega, by simp, by simp, H4.out⟩, rfl⟩)
        case measure => simp [intOf]; omega
      · have hen : entL ls 8 k = (bhd, ((k - ls.length : Nat) : Int)) := by unfold entL; rw [if_neg hkn, if_pos (by omega)]
        have lg := World.block_lt_of_cell? wr _ r0
        have ll := World.block_lt_of_cell? wr _ l0
        have lt := World.block_lt_of_cell? wr _ t0
        simp only [] at lg ll lt
        rw [hen] at r0 r1
        simp only [] at r0 r1
        have e9 : ((k - ls.length : Nat) : Int) = (k : Int) - (ls.length : Int) := by omega
        rw [e9] at r1
        clear e9 hen
        have n2 : wr.heap.size ≠ g1 := by omega
        have n3 : wr.heap.size ≠ lb := by omega
        have n4 : wr.heap.size ≠ sb := by omega
        have n2' := n2.symm
        have n3' := n3.symm
        have n4' := n4.symm
        have hbn : ¬ (k : Int) < (ls.length : Int) := by omega
        have H4 : Hid (LoanAt w ((((wr.setCell ⟨g1, k * 2, none⟩ (S oth)).setCell ⟨g1, k * 2 + 1, none⟩ (.int .i64 99)).alloc (.cells #[S bhd, .int .i64 ((k : Int) - (ls.length : Int))] 77 (0, 0))).drew) lb g1 g2 ls.length ms.length (ovL ls 99 (k + 1)) (entL ms 8) ∧ ((((wr.setCell ⟨g1, k * 2, none⟩ (S oth)).setCell ⟨g1, k * 2 + 1, none⟩ (.int .i64 99)).alloc (.cells #[S bhd, .int .i64 ((k : Int) - (ls.length : Int))] 77 (0, 0))).drew).heap[sb]? = some (.cells #[.slice a1 ls.length c1, .int .i64 df, .slice a2 ms.length c2, .bool op] 27 (0, 0)) ∧ KeptBut sb g1 g2 wx ((((wr.setCell ⟨g1, k * 2, none⟩ (S oth)).setCell ⟨g1, k * 2 + 1, none⟩ (.int .i64 99)).alloc (.cells #[S bhd, .int .i64 ((k : Int) - (ls.length : Int))] 77 (0, 0))).drew)) :=
          ⟨((hLo.over1 hlt o1 fun i _ hi => o2 i hi).below ((Below.refl _ _).alloc (Nat.le_refl _) _)).drew, (Below.heap_alloc _ _ _ (by simpa using lt)).trans (((Below.heap_setCell _ _ _ _ (by simpa using nsb1.symm)).trans (Below.heap_setCell _ _ _ _ (by simpa using nsb1.symm))).trans hS), hKp.over (.inl rfl) lt _ _ _ _ _⟩
        clear hLo hS HI hKp
        unfold S bhd at r0
        unfold S oth bhd at H4
        go_wp2_with fail
        go_region
        all_goals go_wp2_with fail
        all_goals go_roundw
        case rel => first | exact ⟨k + 1, by omega, by simp, by simp, H4.out⟩ | ((repeat apply Exists.intro); exact ⟨⟨k + 1, by omega, by simp, by simp, H4.out⟩, rfl⟩)
        case measure => simp [intOf]; omega
    · have hke : k = ls.length + 8 := by omega
      subst hke
      have hq : ((ls.length + 8 : Nat) : Int) = (ls.length : Int) + 8 := by omega
      have H0 : Hid (LoanAt w wr lb g1 g2 ls.length ms.length (ovL ls 99 (ls.length + 8)) (ovL ms 9 0) ∧ wr.heap[sb]? = some (.cells #[.slice a1 ls.length c1, .int .i64 df, .slice a2 ms.length c2, .bool op] 27 (0, 0)) ∧ KeptBut sb g1 g2 wx wr) := ⟨hLo, hS, hKp⟩
      generalize ovL ls 99 (ls.length + 8) = f1 at *
      clear HI hLo hS hKp
      go_wp2_with fail
      go_loopw [5, 8] (fun ov iv wr => ∃ k : Nat, k ≤ ms.length + 8 ∧ iv = .int .i64 k ∧ ov = .bool true ∧ Hid (LoanAt w wr lb g1 g2 ls.length ms.length f1 (ovL ms 9 k) ∧ wr.heap[sb]? = some (.cells #[.slice a1 ls.length c1, .int .i64 df, .slice a2 ms.length c2, .bool op] 27 (0, 0)) ∧ KeptBut sb g1 g2 wx wr)) (fun _ iv _ => ms.length + 8 - (intOf iv).toNat)
      case atStart => exact ⟨0, by omega, rfl, rfl, H0.out⟩
      case round =>
        obtain ⟨k, hk, rfl, rfl, HI⟩ := hrel
        obtain ⟨hLo, hS, hKp⟩ := HI.out
        have l0 : wr.cell? ⟨lb, 1, none⟩ = _ := cell_of_row wr lb 1 _ _ _ hLo.loan
        have t0 : wr.cell? ⟨sb, 2, none⟩ = _ := cell_of_row wr sb 2 _ _ _ hS
        simp only [List.getElem?_toArray, List.getElem?_cons_zero, List.getElem?_cons_succ] at l0 t0
        by_cases hlt : k < ms.length + 8
        · obtain ⟨o1, o2, o3⟩ := ov_step ms 9 k
          have r0 := hLo.row2.fst k hlt
          have r1 := hLo.row2.snd k hlt
          have rf := hLo.row2.frz
          rw [o3] at r0 r1
          have hbk : (k : Int) < (ms.length : Int) + 8 := by omega
          have b0 : (0 : Int) ≤ (k : Int) := by omega
          by_cases hkn : k < ms.length
          · have hen : entL ms 8 k = ms.getD k ([], 0) := by unfold entL; rw [if_pos hkn]
            obtain ⟨b, o, rfl, x0, x1, x2⟩ := HC2.out k hkn
            have x0' : wr.cell? ⟨b, o + k * 2, none⟩ = some (S (ms.getD k ([], 0)).1) := by rw [hLo.bl.cell (p := ⟨b, o + k * 2, none⟩) (World.block_lt_of_cell? w _ x0)]; exact x0
            have x1' : wr.cell? ⟨b, o + k * 2 + 1, none⟩ = some (.int .i64 (ms.getD k ([], 0)).2) := by rw [hLo.bl.cell (p := ⟨b, o + k * 2 + 1, none⟩) (World.block_lt_of_cell? w _ x1)]; exact x1
            have lbx := World.block_lt_of_cell? wr _ x0'
            have lg := World.block_lt_of_cell? wr _ r0
            have ll := World.block_lt_of_cell? wr _ l0
            have lt := World.block_lt_of_cell? wr _ t0
            simp only [] at lbx lg ll lt
            rw [hen] at r0 r1
            clear x0 x1
            generalize ms.getD k ([], 0) = p at *
            have n1 : wr.heap.size ≠ b := by omega
            have n2 : wr.heap.size ≠ g2 := by omega
            have n3 : wr.heap.size ≠ lb := by omega
            have n4 : wr.heap.size ≠ sb := by omega
            have n1' := n1.symm
            have n2' := n2.symm
            have n3' := n3.symm
            have n4' := n4.symm
            have hbn : (k : Int) < (ms.length : Int) := by omega
            have H4 : Hid (LoanAt w ((((wr.setCell ⟨g2, k * 2, none⟩ (S oth)).setCell ⟨g2, k * 2 + 1, none⟩ (.int .i64 9)).alloc (.cells #[S p.1, .int .i64 p.2] 79 (0, 0))).drew) lb g1 g2 ls.length ms.length f1 (ovL ms 9 (k + 1)) ∧ ((((wr.setCell ⟨g2, k * 2, none⟩ (S oth)).setCell ⟨g2, k * 2 + 1, none⟩ (.int .i64 9)).alloc (.cells #[S p.1, .int .i64 p.2] 79 (0, 0))).drew).heap[sb]? = some (.cells #[.slice a1 ls.length c1, .int .i64 df, .slice (some ⟨b, o, none⟩) ms.length c2, .bool op] 27 (0, 0)) ∧ KeptBut sb g1 g2 wx ((((wr.setCell ⟨g2, k * 2, none⟩ (S oth)).setCell ⟨g2, k * 2 + 1, none⟩ (.int .i64 9)).alloc (.cells #[S p.1, .int .i64 p.2] 79 (0, 0))).drew)) :=
              ⟨((hLo.over2 hlt o1 fun i _ hi => o2 i hi).below ((Below.refl _ _).alloc (Nat.le_refl _) _)).drew, (Below.heap_alloc _ _ _ (by simpa using lt)).trans (((Below.heap_setCell _ _ _ _ (by simpa using nsb2.symm)).trans (Below.heap_setCell _ _ _ _ (by simpa using nsb2.symm))).trans hS), hKp.over (.inr rfl) lt _ _ _ _ _⟩
            clear hLo hS HI hKp
            unfold S oth at H4
            go_wp2_with fail
            go_region
            all_goals go_wp2_with fail
            all_goals go_roundw
            case rel => first | exact ⟨k + 1, by omega, by simp, by simp, H4.out⟩ | ((repeat apply Exists.intro); exact ⟨⟨k + 1, by omega, by simp, by simp, H4.out⟩, rfl⟩)
            case measure => simp [intOf]; omega
          · have hen : entL ms 8 k = (bhd, ((k - ms.length : Nat) : Int)) := by unfold entL; rw [if_neg hkn, if_pos (by omega)]
            have lg := World.block_lt_of_cell? wr _ r0
            have ll := World.block_lt_of_cell? wr _ l0
            have lt := World.block_lt_of_cell? wr _ t0
            simp only [] at lg ll lt
            rw [hen] at r0 r1
            simp only [] at r0 r1
            have e9 : ((k - ms.length : Nat) : Int) = (k : Int) - (ms.length : Int) := by omega
            rw [e9] at r1
            clear e9 hen
            have n2 : wr.heap.size ≠ g2 := by omega
            have n3 : wr.heap.size ≠ lb := by omega
            have n4 : wr.heap.size ≠ sb := by omega
            have n2' := n2.symm
            have n3' := n3.symm
            have n4' := n4.symm
            have hbn : ¬ (k : Int) < (ms.length : Int) := by omega
            have H4 : Hid (LoanAt w ((((wr.setCell ⟨g2, k * 2, none⟩ (S oth)).setCell ⟨g2, k * 2 + 1, none⟩ (.int .i64 9)).alloc (.cells #[S bhd, .int .i64 ((k : Int) - (ms.length : Int))] 79 (0, 0))).drew) lb g1 g2 ls.length ms.length f1 (ovL ms 9 (k + 1)) ∧ ((((wr.setCell ⟨g2, k * 2, none⟩ (S oth)).setCell ⟨g2, k * 2 + 1, none⟩ (.int .i64 9)).alloc (.cells #[S bhd, .int .i64 ((k : Int) - (ms.length : Int))] 79 (0, 0))).drew).heap[sb]? = some (.cells #[.slice a1 ls.length c1, .int .i64 df, .slice a2 ms.length c2, .bool op] 27 (0, 0)) ∧ KeptBut sb g1 g2 wx ((((wr.setCell ⟨g2, k * 2, none⟩ (S oth)).setCell ⟨g2, k * 2 + 1, none⟩ (.int .i64 9)).alloc (.cells #[S bhd, .int .i64 ((k : Int) - (ms.length : Int))] 79 (0, 0))).drew)) :=
              ⟨((hLo.over2 hlt o1 fun i _ hi => o2 i hi).below ((Below.refl _ _).alloc (Nat.le_refl _) _)).drew, (Below.heap_alloc _ _ _ (by simpa using lt)).trans (((Below.heap_setCell _ _ _ _ (by simpa using nsb2.symm)).trans (Below.heap_setCell _ _ _ _ (by simpa using nsb2.symm))).trans hS), hKp.over (.inr rfl) lt _ _ _ _ _⟩
            clear hLo hS HI hKp
            unfold S bhd at r0
            unfold S oth bhd at H4
            go_wp2_with fail
            go_region
            all_goals go_wp2_with fail
            all_goals go_roundw
            case rel => first | exact ⟨k + 1, by omega, by simp, by simp, H4.out⟩ | ((repeat apply Exists.intro); exact ⟨⟨k + 1, by omega, by simp, by simp, H4.out⟩, rfl⟩)
            case measure => simp [intOf]; omega
        · have hke : k = ms.length + 8 := by omega
          subst hke
          have hq : ((ms.length + 8 : Nat) : Int) = (ms.length : Int) + 8 := by omega
          have HB : Hid (Below w.heap.size w wr ∧ KeptBut sb g1 g2 wx wr) := ⟨hLo.bl, hKp⟩
          clear HI hLo hS hKp
          go_wp2_with fail
          go_ret
          exact ⟨rfl, HB.out.1, by rw [HSZ.out]; exact HB.out.2⟩
end Go.Proofs.YtfkdailfcmnjlaaDoor
