/-
  The document's functions read and Check answer as the plain functions do, of every text.
-/
import Derived.Test.YtfkdailfcmnjlaaGreatDoorMB
set_option linter.unusedVariables false
set_option linter.unusedSimpArgs false
namespace Go.Proofs.YtfkdailfcmnjlaaGreatDoor
open Go Go.RowKit
set_option maxRecDepth 100000
attribute [local go_sem ↓] Go.wp_at_zero Go.wp_at_succ

set_option maxHeartbeats 8000000 in
theorem item_let_no {B rb gl cl : Nat} {ts : List Tok} {s : St} {w : World} {r : ItR} (h : RS B rb gl cl ts s w) (hB : B ≤ w.heap.size)
    (hgood : s.bad = false) (hw : isW (tokAt ts s.i) wLet = true)
    (ho : ¬ (tokAt ts (s.i + 1)).k = 111) (hr : r = ⟨false, s.i + 1, [], noItm⟩) :
    Calls Tryz.prog 61 #[.pointer (some ⟨rb, 0, none⟩)] w (LeftI B rb gl cl ts s w r) := by
  have e1 : Hid (seesB s.bad (tokAt ts s.i) wLet = true) := by show _ = _; unfold seesB; rw [hgood, hw]; rfl
  have hxt : (tokAt ts s.i).text = wLet := by unfold isW at hw; simp at hw; exact hw.2
  have e2 : Hid (seesB s.bad (tokAt ts s.i) wAllow = false) := by
    show _ = _; unfold seesB isW; rw [hxt]; simp [wAllow, wLet]
  have e3 : Hid (seesB s.bad (tokAt ts s.i) wDeny = false) := by
    show _ = _; unfold seesB isW; rw [hxt]; simp [wDeny, wLet]
  have hnx := sees_next h e1.out
  have HXT : Hid _ := hxt
  clear hw hxt
  have H2 : Hid _ := hgood
  have HR : Hid _ := hr
  clear hr hgood
  obtain ⟨c0, c1, c2, c3⟩ := h.cells
  obtain ⟨k0, k1, k2⟩ := next_word h
  have hi := h.hi
  have hn := h.hn
  have b1 : (0 : Int) ≤ (s.i : Int) := by omega
  have b2 : (s.i : Int) < (ts.length : Int) := by omega
  have l0 := World.block_lt_of_cell? w _ c0
  have l1 := World.block_lt_of_cell? w _ k0
  simp only at l0 l1
  have n0 : w.heap.size ≠ rb := by omega
  have n1 : w.heap.size + 1 ≠ rb := by omega
  have m0 : w.heap.size ≠ gl := by omega
  have m1 : w.heap.size + 1 ≠ gl := by omega
  clear c2 c3
  go_enter Tryz.func61, Tryz.ntmps61
  go_wp2_with fail
  go_region_held (fun w' => w'.cell? ⟨rb, 0, none⟩ = some (.slice (some ⟨gl, 0, none⟩) ts.length cl) ∧ w'.cell? ⟨rb, 1, none⟩ = some (.int .i64 s.i) ∧ w'.cell? ⟨gl, s.i * 3, none⟩ = some (.int .u8 (tokAt ts s.i).k) ∧ w'.cell? ⟨gl, s.i * 3 + 1, none⟩ = some (S (tokAt ts s.i).text) ∧ w'.cell? ⟨gl, s.i * 3 + 2, none⟩ = some (.int .i64 (tokAt ts s.i).pl)) (go_keep) (fail)
  rename_i hHeld
  clear hHeld
  obtain ⟨hbW, hR, hX⟩ := three_new w (itmObj noItm) (wordObj (tokAt ts s.i)) (itmObj ⟨[], (tokAt ts s.i).text == wAllow, 0, (tokAt ts s.i).pl, 0, 0⟩)
  have hW := h.below hbW
  clear c0 c1 k0 k1 k2 n0 n1 m0 m1
  go_wp2_with fail
  refine (sees_any hW wLet).mono ?_
  rintro e w1 ⟨rfl, hb1⟩
  have hW1 := hW.below hb1
  have hR1 : w1.heap[w.heap.size]? = some (itmObj noItm) := by rw [hb1.block _ (lt_of_get hR)]; exact hR
  have hX1 : w1.heap[w.heap.size + 1 + 1]? = some (itmObj ⟨[], (tokAt ts s.i).text == wAllow, 0, (tokAt ts s.i).pl, 0, 0⟩) := by rw [hb1.block _ (lt_of_get hX)]; exact hX
  have hbW1 : Below w.heap.size w w1 := hbW.trans (hb1.mono hbW.size)
  clear hbW hR hX hW hb1
  rw [e1.out]
  go_wp2_with fail
  refine (sees_any hW1 wAllow).mono ?_
  rintro e w2 ⟨rfl, hb2⟩
  have hW2 := hW1.below hb2
  have hR2 : w2.heap[w.heap.size]? = some (itmObj noItm) := by rw [hb2.block _ (lt_of_get hR1)]; exact hR1
  have hX2 : w2.heap[w.heap.size + 1 + 1]? = some (itmObj ⟨[], (tokAt ts s.i).text == wAllow, 0, (tokAt ts s.i).pl, 0, 0⟩) := by rw [hb2.block _ (lt_of_get hX1)]; exact hX1
  have hbW2 : Below w.heap.size w w2 := hbW1.trans (hb2.mono hbW1.size)
  clear hbW1 hR1 hX1 hW1 hb2
  rw [e2.out]
  go_wp2_with fail
  refine (sees_any hW2 wDeny).mono ?_
  rintro e w3 ⟨rfl, hb3⟩
  have hW3 := hW2.below hb3
  have hR3 : w3.heap[w.heap.size]? = some (itmObj noItm) := by rw [hb3.block _ (lt_of_get hR2)]; exact hR2
  have hX3 : w3.heap[w.heap.size + 1 + 1]? = some (itmObj ⟨[], (tokAt ts s.i).text == wAllow, 0, (tokAt ts s.i).pl, 0, 0⟩) := by rw [hb3.block _ (lt_of_get hX2)]; exact hX2
  have hbW3 : Below w.heap.size w w3 := hbW2.trans (hb3.mono hbW2.size)
  clear hbW2 hR2 hX2 hW2 hb3
  rw [e3.out]
  obtain ⟨c0, c1, c2, c3⟩ := hW3.cells
  have hf := hW3.free
  obtain ⟨⟨r0, r1, r2, r3, r4, r5⟩, rf⟩ := itm_cells hR3
  obtain ⟨⟨x0, x1, x2, x3, x4, x5⟩, xf⟩ := itm_cells hX3
  have hx' : (s.i : Int) + 1 ≤ 2000 := by omega
  have s1 := fun v j => set_far w3 rb w.heap.size 1 j v (by omega)
  have s2 := fun v j => set_far w3 rb (w.heap.size + 1 + 1) 1 j v (by omega)
  go_wp2_with fail
  have h4 := hW3.next hnx.1
  have F4 : Fr rb s.pv s.pv w (w3.setCell ⟨rb, 1, none⟩ (.int .i64 ((s.i : Int) + 1))) := (Fr.of_below hbW3).set l0 _ _
  have hR4 : (w3.setCell ⟨rb, 1, none⟩ (.int .i64 ((s.i : Int) + 1))).heap[w.heap.size]? = some (itmObj noItm) := by rw [Below.heap_setCell _ _ _ _ (by simp; omega)]; exact hR3
  have hX4 : (w3.setCell ⟨rb, 1, none⟩ (.int .i64 ((s.i : Int) + 1))).heap[w.heap.size + 1 + 1]? = some (itmObj ⟨[], (tokAt ts s.i).text == wAllow, 0, (tokAt ts s.i).pl, 0, 0⟩) := by rw [Below.heap_setCell _ _ _ _ (by simp; omega)]; exact hX3
  clear hW3 hbW3 hR3 hX3 c0 c1 c2 c3 hf r0 r1 r2 r3 r4 r5 rf x0 x1 x2 x3 x4 x5 xf s1 s2
  generalize w3.setCell ⟨rb, 1, none⟩ (.int .i64 ((s.i : Int) + 1)) = w4 at *
  obtain ⟨s4, hs4⟩ : ∃ s4 : St, s4 = { s with i := s.i + 1 } := ⟨_, rfl⟩
  rw [← hs4] at h4
  have HS4 : Hid _ := hs4
  have e4 : Hid (s4.i = s.i + 1 ∧ s4.bad = s.bad ∧ s4.pv = s.pv ∧ s4.ps = s.ps) := by rw [hs4]; exact ⟨rfl, rfl, rfl, rfl⟩
  have F4' : Fr rb s.pv s4.pv w w4 := by rw [e4.out.2.2.1]; exact F4
  clear hs4 F4
  obtain ⟨c0, c1, c2, c3⟩ := h4.cells
  obtain ⟨k0, k1, k2⟩ := next_word h4
  have hi4 := h4.hi
  have b3 : (0 : Int) ≤ (s4.i : Int) := by omega
  have b4 : (s4.i : Int) < (ts.length : Int) := by omega
  have n0 := World.new_ne w4 _ c0
  have n1 := World.new_ne w4 _ c1
  have m0 := World.new_ne w4 _ k0
  have m1 := World.new_ne w4 _ k1
  have m2 := World.new_ne w4 _ k2
  have hsz4 := F4'.size
  have lR4 := lt_of_get hR4
  have lX4 := lt_of_get hX4
  go_region_held (fun w' => w'.cell? ⟨rb, 0, none⟩ = some (.slice (some ⟨gl, 0, none⟩) ts.length cl) ∧ w'.cell? ⟨rb, 1, none⟩ = some (.int .i64 s4.i) ∧ w'.cell? ⟨gl, s4.i * 3, none⟩ = some (.int .u8 (tokAt ts s4.i).k) ∧ w'.cell? ⟨gl, s4.i * 3 + 1, none⟩ = some (S (tokAt ts s4.i).text) ∧ w'.cell? ⟨gl, s4.i * 3 + 2, none⟩ = some (.int .i64 (tokAt ts s4.i).pl)) (go_keep) (fail)
  rename_i hHeld
  clear hHeld
  have h5 := h4.below (below_word w4 (wordObj (tokAt ts s4.i)))
  have hO5 : ((w4.alloc (wordObj (tokAt ts s4.i))).drew).heap[w4.heap.size]? = some (wordObj (tokAt ts s4.i)) := heap_alloc_new w4 _
  have hR5 : ((w4.alloc (wordObj (tokAt ts s4.i))).drew).heap[w.heap.size]? = some (itmObj noItm) := by rw [(below_word w4 _).block _ lR4]; exact hR4
  have hX5 : ((w4.alloc (wordObj (tokAt ts s4.i))).drew).heap[w.heap.size + 1 + 1]? = some (itmObj ⟨[], (tokAt ts s.i).text == wAllow, 0, (tokAt ts s.i).pl, 0, 0⟩) := by rw [(below_word w4 _).block _ lX4]; exact hX4
  have F5 : Fr rb s.pv s4.pv w (w4.alloc (wordObj (tokAt ts s4.i))).drew := F4'.trans (Fr.of_below (below_word w4 _))
  clear h4 hR4 hX4 F4' c0 c1 c2 c3 k0 k1 k2 n0 n1 m0 m1 m2
  generalize (w4.alloc (wordObj (tokAt ts s4.i))).drew = w5 at *
  have q0 := cell_of_row w5 w4.heap.size 0 _ _ _ hO5
  have q1 := cell_of_row w5 w4.heap.size 1 _ _ _ hO5
  have q2 := cell_of_row w5 w4.heap.size 2 _ _ _ hO5
  obtain ⟨c0, c1, c2, c3⟩ := h5.cells
  have hf := h5.free
  obtain ⟨⟨x0, x1, x2, x3, x4, x5⟩, xf⟩ := itm_cells hX5
  obtain ⟨⟨r0, r1, r2, r3, r4, r5⟩, rf⟩ := itm_cells hR5
  simp only [List.getElem?_toArray, List.getElem?_cons_zero, List.getElem?_cons_succ] at q0 q1 q2
  have ho' : (((tokAt ts s4.i).k : Int) != 111) = true := by rw [e4.out.1]; simp; omega
  have t1 := fun v j => set_far w5 rb w.heap.size 3 j v (by omega)
  have t2 := fun v j => set_far w5 rb (w.heap.size + 1 + 1) 3 j v (by omega)
  have HO : Hid _ := item_out (r := r) (x := ⟨[], (tokAt ts s.i).text == wAllow, 0, (tokAt ts s.i).pl, 0, 0⟩) (s := s) (w := w) h5.fails (F5.set l0 3 (.bool true)) (Nat.le_refl _) (by rw [Below.heap_setCell _ _ _ _ (by simp; omega)]; exact hR5) (by rw [e4.out.2.2.2, e4.out.1]; exact ⟨Nat.le_refl _, by omega⟩) (by rw [HR.out]; exact e4.out.1) (.inr ⟨by rw [HR.out], rfl⟩)
  clear ho
  go_wp2_with fail
  exact bodyPost_ret (v := itmV ⟨[], (tokAt ts s.i).text == wAllow, 0, (tokAt ts s.i).pl, 0, 0⟩) (by simp [results, Tryz.results61, go_sem, itmV, cell_set_same, cell_set_off, some_set, t1, r0, r1, r2, r3, r4, r5]) rfl HO.out
end Go.Proofs.YtfkdailfcmnjlaaGreatDoor

namespace Go.Proofs.YtfkdailfcmnjlaaGreatDoor
open Go Go.RowKit
set_option maxRecDepth 100000
attribute [local go_sem ↓] Go.wp_at_zero Go.wp_at_succ

set_option maxHeartbeats 8000000 in
theorem item_let_noeq {B rb gl cl : Nat} {ts : List Tok} {s : St} {w : World} {r : ItR} (h : RS B rb gl cl ts s w) (hB : B ≤ w.heap.size)
    (hgood : s.bad = false) (hw : isW (tokAt ts s.i) wLet = true)
    (ho : (tokAt ts (s.i + 1)).k = 111) (heq : ¬ isW (tokAt ts (s.i + 2)) [61] = true) (hr : r = ⟨false, s.i + 2, [], noItm⟩) :
    Calls Tryz.prog 61 #[.pointer (some ⟨rb, 0, none⟩)] w (LeftI B rb gl cl ts s w r) := by
  have e1 : Hid (seesB s.bad (tokAt ts s.i) wLet = true) := by show _ = _; unfold seesB; rw [hgood, hw]; rfl
  have hxt : (tokAt ts s.i).text = wLet := by unfold isW at hw; simp at hw; exact hw.2
  have e2 : Hid (seesB s.bad (tokAt ts s.i) wAllow = false) := by
    show _ = _; unfold seesB isW; rw [hxt]; simp [wAllow, wLet]
  have e3 : Hid (seesB s.bad (tokAt ts s.i) wDeny = false) := by
    show _ = _; unfold seesB isW; rw [hxt]; simp [wDeny, wLet]
  have hnx := sees_next h e1.out
  have HXT : Hid _ := hxt
  clear hw hxt
  have H2 : Hid _ := hgood
  have HR : Hid _ := hr
  have HI : Hid _ := heq
  clear heq
  clear hr hgood
  obtain ⟨c0, c1, c2, c3⟩ := h.cells
  obtain ⟨k0, k1, k2⟩ := next_word h
  have hi := h.hi
  have hn := h.hn
  have b1 : (0 : Int) ≤ (s.i : Int) := by omega
  have b2 : (s.i : Int) < (ts.length : Int) := by omega
  have l0 := World.block_lt_of_cell? w _ c0
  have l1 := World.block_lt_of_cell? w _ k0
  simp only at l0 l1
  have n0 : w.heap.size ≠ rb := by omega
  have n1 : w.heap.size + 1 ≠ rb := by omega
  have m0 : w.heap.size ≠ gl := by omega
  have m1 : w.heap.size + 1 ≠ gl := by omega
  clear c2 c3
  go_enter Tryz.func61, Tryz.ntmps61
  go_wp2_with fail
  go_region_held (fun w' => w'.cell? ⟨rb, 0, none⟩ = some (.slice (some ⟨gl, 0, none⟩) ts.length cl) ∧ w'.cell? ⟨rb, 1, none⟩ = some (.int .i64 s.i) ∧ w'.cell? ⟨gl, s.i * 3, none⟩ = some (.int .u8 (tokAt ts s.i).k) ∧ w'.cell? ⟨gl, s.i * 3 + 1, none⟩ = some (S (tokAt ts s.i).text) ∧ w'.cell? ⟨gl, s.i * 3 + 2, none⟩ = some (.int .i64 (tokAt ts s.i).pl)) (go_keep) (fail)
  rename_i hHeld
  clear hHeld
  obtain ⟨hbW, hR, hX⟩ := three_new w (itmObj noItm) (wordObj (tokAt ts s.i)) (itmObj ⟨[], (tokAt ts s.i).text == wAllow, 0, (tokAt ts s.i).pl, 0, 0⟩)
  have hW := h.below hbW
  clear c0 c1 k0 k1 k2 n0 n1 m0 m1
  go_wp2_with fail
  refine (sees_any hW wLet).mono ?_
  rintro e w1 ⟨rfl, hb1⟩
  have hW1 := hW.below hb1
  have hR1 : w1.heap[w.heap.size]? = some (itmObj noItm) := by rw [hb1.block _ (lt_of_get hR)]; exact hR
  have hX1 : w1.heap[w.heap.size + 1 + 1]? = some (itmObj ⟨[], (tokAt ts s.i).text == wAllow, 0, (tokAt ts s.i).pl, 0, 0⟩) := by rw [hb1.block _ (lt_of_get hX)]; exact hX
  have hbW1 : Below w.heap.size w w1 := hbW.trans (hb1.mono hbW.size)
  clear hbW hR hX hW hb1
  rw [e1.out]
  go_wp2_with fail
  refine (sees_any hW1 wAllow).mono ?_
  rintro e w2 ⟨rfl, hb2⟩
  have hW2 := hW1.below hb2
  have hR2 : w2.heap[w.heap.size]? = some (itmObj noItm) := by rw [hb2.block _ (lt_of_get hR1)]; exact hR1
  have hX2 : w2.heap[w.heap.size + 1 + 1]? = some (itmObj ⟨[], (tokAt ts s.i).text == wAllow, 0, (tokAt ts s.i).pl, 0, 0⟩) := by rw [hb2.block _ (lt_of_get hX1)]; exact hX1
  have hbW2 : Below w.heap.size w w2 := hbW1.trans (hb2.mono hbW1.size)
  clear hbW1 hR1 hX1 hW1 hb2
  rw [e2.out]
  go_wp2_with fail
  refine (sees_any hW2 wDeny).mono ?_
  rintro e w3 ⟨rfl, hb3⟩
  have hW3 := hW2.below hb3
  have hR3 : w3.heap[w.heap.size]? = some (itmObj noItm) := by rw [hb3.block _ (lt_of_get hR2)]; exact hR2
  have hX3 : w3.heap[w.heap.size + 1 + 1]? = some (itmObj ⟨[], (tokAt ts s.i).text == wAllow, 0, (tokAt ts s.i).pl, 0, 0⟩) := by rw [hb3.block _ (lt_of_get hX2)]; exact hX2
  have hbW3 : Below w.heap.size w w3 := hbW2.trans (hb3.mono hbW2.size)
  clear hbW2 hR2 hX2 hW2 hb3
  rw [e3.out]
  obtain ⟨c0, c1, c2, c3⟩ := hW3.cells
  have hf := hW3.free
  obtain ⟨⟨r0, r1, r2, r3, r4, r5⟩, rf⟩ := itm_cells hR3
  obtain ⟨⟨x0, x1, x2, x3, x4, x5⟩, xf⟩ := itm_cells hX3
  have hx' : (s.i : Int) + 1 ≤ 2000 := by omega
  have s1 := fun v j => set_far w3 rb w.heap.size 1 j v (by omega)
  have s2 := fun v j => set_far w3 rb (w.heap.size + 1 + 1) 1 j v (by omega)
  go_wp2_with fail
  have h4 := hW3.next hnx.1
  have F4 : Fr rb s.pv s.pv w (w3.setCell ⟨rb, 1, none⟩ (.int .i64 ((s.i : Int) + 1))) := (Fr.of_below hbW3).set l0 _ _
  have hR4 : (w3.setCell ⟨rb, 1, none⟩ (.int .i64 ((s.i : Int) + 1))).heap[w.heap.size]? = some (itmObj noItm) := by rw [Below.heap_setCell _ _ _ _ (by simp; omega)]; exact hR3
  have hX4 : (w3.setCell ⟨rb, 1, none⟩ (.int .i64 ((s.i : Int) + 1))).heap[w.heap.size + 1 + 1]? = some (itmObj ⟨[], (tokAt ts s.i).text == wAllow, 0, (tokAt ts s.i).pl, 0, 0⟩) := by rw [Below.heap_setCell _ _ _ _ (by simp; omega)]; exact hX3
  clear hW3 hbW3 hR3 hX3 c0 c1 c2 c3 hf r0 r1 r2 r3 r4 r5 rf x0 x1 x2 x3 x4 x5 xf s1 s2
  generalize w3.setCell ⟨rb, 1, none⟩ (.int .i64 ((s.i : Int) + 1)) = w4 at *
  obtain ⟨s4, hs4⟩ : ∃ s4 : St, s4 = { s with i := s.i + 1 } := ⟨_, rfl⟩
  rw [← hs4] at h4
  have HS4 : Hid _ := hs4
  have e4 : Hid (s4.i = s.i + 1 ∧ s4.bad = s.bad ∧ s4.pv = s.pv ∧ s4.ps = s.ps) := by rw [hs4]; exact ⟨rfl, rfl, rfl, rfl⟩
  have F4' : Fr rb s.pv s4.pv w w4 := by rw [e4.out.2.2.1]; exact F4
  clear hs4 F4
  obtain ⟨c0, c1, c2, c3⟩ := h4.cells
  obtain ⟨k0, k1, k2⟩ := next_word h4
  have hi4 := h4.hi
  have b3 : (0 : Int) ≤ (s4.i : Int) := by omega
  have b4 : (s4.i : Int) < (ts.length : Int) := by omega
  have n0 := World.new_ne w4 _ c0
  have n1 := World.new_ne w4 _ c1
  have m0 := World.new_ne w4 _ k0
  have m1 := World.new_ne w4 _ k1
  have m2 := World.new_ne w4 _ k2
  have hsz4 := F4'.size
  have lR4 := lt_of_get hR4
  have lX4 := lt_of_get hX4
  go_region_held (fun w' => w'.cell? ⟨rb, 0, none⟩ = some (.slice (some ⟨gl, 0, none⟩) ts.length cl) ∧ w'.cell? ⟨rb, 1, none⟩ = some (.int .i64 s4.i) ∧ w'.cell? ⟨gl, s4.i * 3, none⟩ = some (.int .u8 (tokAt ts s4.i).k) ∧ w'.cell? ⟨gl, s4.i * 3 + 1, none⟩ = some (S (tokAt ts s4.i).text) ∧ w'.cell? ⟨gl, s4.i * 3 + 2, none⟩ = some (.int .i64 (tokAt ts s4.i).pl)) (go_keep) (fail)
  rename_i hHeld
  clear hHeld
  have h5 := h4.below (below_word w4 (wordObj (tokAt ts s4.i)))
  have hO5 : ((w4.alloc (wordObj (tokAt ts s4.i))).drew).heap[w4.heap.size]? = some (wordObj (tokAt ts s4.i)) := heap_alloc_new w4 _
  have hR5 : ((w4.alloc (wordObj (tokAt ts s4.i))).drew).heap[w.heap.size]? = some (itmObj noItm) := by rw [(below_word w4 _).block _ lR4]; exact hR4
  have hX5 : ((w4.alloc (wordObj (tokAt ts s4.i))).drew).heap[w.heap.size + 1 + 1]? = some (itmObj ⟨[], (tokAt ts s.i).text == wAllow, 0, (tokAt ts s.i).pl, 0, 0⟩) := by rw [(below_word w4 _).block _ lX4]; exact hX4
  have F5 : Fr rb s.pv s4.pv w (w4.alloc (wordObj (tokAt ts s4.i))).drew := F4'.trans (Fr.of_below (below_word w4 _))
  clear h4 hR4 hX4 F4' c0 c1 c2 c3 k0 k1 k2 n0 n1 m0 m1 m2
  generalize (w4.alloc (wordObj (tokAt ts s4.i))).drew = w5 at *
  have q0 := cell_of_row w5 w4.heap.size 0 _ _ _ hO5
  have q1 := cell_of_row w5 w4.heap.size 1 _ _ _ hO5
  have q2 := cell_of_row w5 w4.heap.size 2 _ _ _ hO5
  obtain ⟨c0, c1, c2, c3⟩ := h5.cells
  have hf := h5.free
  obtain ⟨⟨x0, x1, x2, x3, x4, x5⟩, xf⟩ := itm_cells hX5
  obtain ⟨⟨r0, r1, r2, r3, r4, r5⟩, rf⟩ := itm_cells hR5
  simp only [List.getElem?_toArray, List.getElem?_cons_zero, List.getElem?_cons_succ] at q0 q1 q2
  have ho' : (((tokAt ts s4.i).k : Int) != 111) = false := by rw [e4.out.1]; simp; omega
  have hnx2 : s4.i + 1 < ts.length := by
    rcases Nat.lt_or_ge (s4.i + 1) ts.length with h3 | h3
    · exact h3
    · have h4 : (tokAt ts s4.i).k = 101 := h5.fin s4.i (by omega)
      rw [e4.out.1] at h4; omega
  have u1 : ∀ (W : World) (i j : Nat) (v : Value), (W.setCell ⟨w.heap.size + 1 + 1, i, none⟩ v).cell? ⟨rb, j, none⟩ = W.cell? ⟨rb, j, none⟩ := fun W i j v => set_far W _ rb i j v (by omega)
  have u2 : ∀ (W : World) (i j : Nat) (v : Value), (W.setCell ⟨w.heap.size + 1 + 1, i, none⟩ v).cell? ⟨w4.heap.size, j, none⟩ = W.cell? ⟨w4.heap.size, j, none⟩ := fun W i j v => set_far W _ _ i j v (by omega)
  have u3 : ∀ (W : World) (v : Value), (W.setCell ⟨w.heap.size + 1 + 1, 0, none⟩ v).cell? ⟨w.heap.size + 1 + 1, 4, none⟩ = W.cell? ⟨w.heap.size + 1 + 1, 4, none⟩ := fun W v => cell_set_off W _ 0 4 v (by decide)
  have hx4 : (s4.i : Int) + 1 ≤ 2000 := by omega
  have h6 := h5.but hX5 (w' := ((w5.setCell ⟨w.heap.size + 1 + 1, 0, none⟩ (S (tokAt ts s4.i).text)).setCell ⟨w.heap.size + 1 + 1, 4, none⟩ (.int .i64 (tokAt ts s4.i).pl))) (fun k hk => by rw [Below.heap_setCell _ _ _ _ hk, Below.heap_setCell _ _ _ _ hk])
  have hX6 : ((w5.setCell ⟨w.heap.size + 1 + 1, 0, none⟩ (S (tokAt ts s4.i).text)).setCell ⟨w.heap.size + 1 + 1, 4, none⟩ (.int .i64 (tokAt ts s4.i).pl)).heap[w.heap.size + 1 + 1]? = some (itmObj ⟨(tokAt ts s4.i).text, (tokAt ts s.i).text == wAllow, 0, (tokAt ts s.i).pl, (tokAt ts s4.i).pl, 0⟩) := by
    rw [heap_setCell_same _ _ 4 _ _ _ (heap_setCell_same w5 _ 0 _ _ _ hX5)]; simp
  have hR6 : ((w5.setCell ⟨w.heap.size + 1 + 1, 0, none⟩ (S (tokAt ts s4.i).text)).setCell ⟨w.heap.size + 1 + 1, 4, none⟩ (.int .i64 (tokAt ts s4.i).pl)).heap[w.heap.size]? = some (itmObj noItm) := by rw [Below.heap_setCell _ _ _ _ (by simp; omega), Below.heap_setCell _ _ _ _ (by simp; omega)]; exact hR5
  have F6 : Fr rb s.pv s4.pv w ((w5.setCell ⟨w.heap.size + 1 + 1, 0, none⟩ (S (tokAt ts s4.i).text)).setCell ⟨w.heap.size + 1 + 1, 4, none⟩ (.int .i64 (tokAt ts s4.i).pl)) := (F5.new (by omega) _ _).new (by omega) _ _
  have h7 := h6.next hnx2
  have hX7 : (((w5.setCell ⟨w.heap.size + 1 + 1, 0, none⟩ (S (tokAt ts s4.i).text)).setCell ⟨w.heap.size + 1 + 1, 4, none⟩ (.int .i64 (tokAt ts s4.i).pl)).setCell ⟨rb, 1, none⟩ (.int .i64 ((s4.i : Int) + 1))).heap[w.heap.size + 1 + 1]? = some (itmObj ⟨(tokAt ts s4.i).text, (tokAt ts s.i).text == wAllow, 0, (tokAt ts s.i).pl, (tokAt ts s4.i).pl, 0⟩) := by rw [Below.heap_setCell _ _ _ _ (by simp; omega)]; exact hX6
  have hR7 : (((w5.setCell ⟨w.heap.size + 1 + 1, 0, none⟩ (S (tokAt ts s4.i).text)).setCell ⟨w.heap.size + 1 + 1, 4, none⟩ (.int .i64 (tokAt ts s4.i).pl)).setCell ⟨rb, 1, none⟩ (.int .i64 ((s4.i : Int) + 1))).heap[w.heap.size]? = some (itmObj noItm) := by rw [Below.heap_setCell _ _ _ _ (by simp; omega)]; exact hR6
  have F7 : Fr rb s.pv s4.pv w (((w5.setCell ⟨w.heap.size + 1 + 1, 0, none⟩ (S (tokAt ts s4.i).text)).setCell ⟨w.heap.size + 1 + 1, 4, none⟩ (.int .i64 (tokAt ts s4.i).pl)).setCell ⟨rb, 1, none⟩ (.int .i64 ((s4.i : Int) + 1))) := F6.set l0 _ _
  have HH : Hid _ := And.intro h7 (And.intro hX7 (And.intro hR7 F7))
  clear ho h6 hX6 hR6 F6 h7 hX7 hR7 F7
  go_wp2_with fail
  obtain ⟨h7, hX7, hR7, F7⟩ := HH.out
  clear HH h5 hX5 hR5 hO5 F5 c0 c1 c2 c3 hf q0 q1 q2 x0 x1 x2 x3 x4 x5 xf r0 r1 r2 r3 r4 r5 rf u1 u2 u3
  generalize (((w5.setCell ⟨w.heap.size + 1 + 1, 0, none⟩ (S (tokAt ts s4.i).text)).setCell ⟨w.heap.size + 1 + 1, 4, none⟩ (.int .i64 (tokAt ts s4.i).pl)).setCell ⟨rb, 1, none⟩ (.int .i64 ((s4.i : Int) + 1))) = w6 at *
  refine (must_any h7 [61]).mono ?_
  rintro e w7 ⟨rfl, h8, F8⟩
  have e5 : mustSt ts { s4 with i := s4.i + 1 } [61] = { s4 with i := s4.i + 1, bad := true } := by
    unfold mustSt seesB; simp only; rw [e4.out.2.1, H2.out, if_neg (by rw [e4.out.1]; simpa using HI.out)]
  rw [e5] at h8
  have hR8 := F8.far hR7 (by omega) (own_ne h7 hR7 (by simp))
  have hX8 := F8.far hX7 (by omega) (own_ne h7 hX7 (by simp))
  have F9 : Fr rb s.pv s4.pv w w7 := F7.trans F8
  have hs7 := F9.size
  clear e5 F7 F8 hR7 hX7 h7
  obtain ⟨c0, c1, c2, c3⟩ := h8.cells
  obtain ⟨⟨x0, x1, x2, x3, x4, x5⟩, xf⟩ := itm_cells hX8
  obtain ⟨⟨r0, r1, r2, r3, r4, r5⟩, rf⟩ := itm_cells hR8
  have HO : Hid _ := item_out (r := r) (x := ⟨(tokAt ts s4.i).text, (tokAt ts s.i).text == wAllow, 0, (tokAt ts s.i).pl, (tokAt ts s4.i).pl, 0⟩) (s := s) (w := w) h8 F9 (Nat.le_refl _) hR8 (by simp only; rw [e4.out.2.2.2, e4.out.1]; exact ⟨Nat.le_refl _, by omega⟩) (by rw [HR.out]; simp only; rw [e4.out.1]) (.inr ⟨by rw [HR.out], rfl⟩)
  go_wp2_with fail
  exact bodyPost_ret (v := itmV ⟨(tokAt ts s4.i).text, (tokAt ts s.i).text == wAllow, 0, (tokAt ts s.i).pl, (tokAt ts s4.i).pl, 0⟩) (by simp [results, Tryz.results61, go_sem, itmV, cell_set_same, cell_set_off, some_set, r0, r1, r2, r3, r4, r5]) rfl HO.out
end Go.Proofs.YtfkdailfcmnjlaaGreatDoor

namespace Go.Proofs.YtfkdailfcmnjlaaGreatDoor
open Go Go.RowKit
set_option maxRecDepth 100000
attribute [local go_sem ↓] Go.wp_at_zero Go.wp_at_succ

set_option maxHeartbeats 8000000 in
theorem item_let {f : Nat} {B rb gl cl : Nat} {ts : List Tok} {s : St} {w : World} {r : ItR} (h : RS B rb gl cl ts s w) (hts : ∀ t ∈ ts, TokOK t) (hB : B ≤ w.heap.size)
    (hgood : s.bad = false) (hnum : NumsOK s) (hw : isW (tokAt ts s.i) wLet = true)
    (ho : (tokAt ts (s.i + 1)).k = 111) (heq : isW (tokAt ts (s.i + 2)) [61] = true) (hr : itemTail f ts (s.i + 3) (s.ps.map toPt) ⟨(tokAt ts (s.i + 1)).text, (tokAt ts s.i).text == wAllow, 0, (tokAt ts s.i).pl, (tokAt ts (s.i + 1)).pl, 0⟩ = some r) :
    Calls Tryz.prog 61 #[.pointer (some ⟨rb, 0, none⟩)] w (LeftI B rb gl cl ts s w r) := by
  have e1 : Hid (seesB s.bad (tokAt ts s.i) wLet = true) := by show _ = _; unfold seesB; rw [hgood, hw]; rfl
  have hxt : (tokAt ts s.i).text = wLet := by unfold isW at hw; simp at hw; exact hw.2
  have e2 : Hid (seesB s.bad (tokAt ts s.i) wAllow = false) := by
    show _ = _; unfold seesB isW; rw [hxt]; simp [wAllow, wLet]
  have e3 : Hid (seesB s.bad (tokAt ts s.i) wDeny = false) := by
    show _ = _; unfold seesB isW; rw [hxt]; simp [wDeny, wLet]
  have hnx := sees_next h e1.out
  have HXT : Hid _ := hxt
  clear hw hxt
  have H2 : Hid _ := hgood
  have HR : Hid _ := hr
  have HI : Hid _ := heq
  clear heq
  clear hr hgood
  obtain ⟨c0, c1, c2, c3⟩ := h.cells
  obtain ⟨k0, k1, k2⟩ := next_word h
  have hi := h.hi
  have hn := h.hn
  have b1 : (0 : Int) ≤ (s.i : Int) := by omega
  have b2 : (s.i : Int) < (ts.length : Int) := by omega
  have l0 := World.block_lt_of_cell? w _ c0
  have l1 := World.block_lt_of_cell? w _ k0
  simp only at l0 l1
  have n0 : w.heap.size ≠ rb := by omega
  have n1 : w.heap.size + 1 ≠ rb := by omega
  have m0 : w.heap.size ≠ gl := by omega
  have m1 : w.heap.size + 1 ≠ gl := by omega
  clear c2 c3
  go_enter Tryz.func61, Tryz.ntmps61
  go_wp2_with fail
  go_region_held (fun w' => w'.cell? ⟨rb, 0, none⟩ = some (.slice (some ⟨gl, 0, none⟩) ts.length cl) ∧ w'.cell? ⟨rb, 1, none⟩ = some (.int .i64 s.i) ∧ w'.cell? ⟨gl, s.i * 3, none⟩ = some (.int .u8 (tokAt ts s.i).k) ∧ w'.cell? ⟨gl, s.i * 3 + 1, none⟩ = some (S (tokAt ts s.i).text) ∧ w'.cell? ⟨gl, s.i * 3 + 2, none⟩ = some (.int .i64 (tokAt ts s.i).pl)) (go_keep) (fail)
  rename_i hHeld
  clear hHeld
  obtain ⟨hbW, hR, hX⟩ := three_new w (itmObj noItm) (wordObj (tokAt ts s.i)) (itmObj ⟨[], (tokAt ts s.i).text == wAllow, 0, (tokAt ts s.i).pl, 0, 0⟩)
  have hW := h.below hbW
  clear c0 c1 k0 k1 k2 n0 n1 m0 m1
  go_wp2_with fail
  refine (sees_any hW wLet).mono ?_
  rintro e w1 ⟨rfl, hb1⟩
  have hW1 := hW.below hb1
  have hR1 : w1.heap[w.heap.size]? = some (itmObj noItm) := by rw [hb1.block _ (lt_of_get hR)]; exact hR
  have hX1 : w1.heap[w.heap.size + 1 + 1]? = some (itmObj ⟨[], (tokAt ts s.i).text == wAllow, 0, (tokAt ts s.i).pl, 0, 0⟩) := by rw [hb1.block _ (lt_of_get hX)]; exact hX
  have hbW1 : Below w.heap.size w w1 := hbW.trans (hb1.mono hbW.size)
  clear hbW hR hX hW hb1
  rw [e1.out]
  go_wp2_with fail
  refine (sees_any hW1 wAllow).mono ?_
  rintro e w2 ⟨rfl, hb2⟩
  have hW2 := hW1.below hb2
  have hR2 : w2.heap[w.heap.size]? = some (itmObj noItm) := by rw [hb2.block _ (lt_of_get hR1)]; exact hR1
  have hX2 : w2.heap[w.heap.size + 1 + 1]? = some (itmObj ⟨[], (tokAt ts s.i).text == wAllow, 0, (tokAt ts s.i).pl, 0, 0⟩) := by rw [hb2.block _ (lt_of_get hX1)]; exact hX1
  have hbW2 : Below w.heap.size w w2 := hbW1.trans (hb2.mono hbW1.size)
  clear hbW1 hR1 hX1 hW1 hb2
  rw [e2.out]
  go_wp2_with fail
  refine (sees_any hW2 wDeny).mono ?_
  rintro e w3 ⟨rfl, hb3⟩
  have hW3 := hW2.below hb3
  have hR3 : w3.heap[w.heap.size]? = some (itmObj noItm) := by rw [hb3.block _ (lt_of_get hR2)]; exact hR2
  have hX3 : w3.heap[w.heap.size + 1 + 1]? = some (itmObj ⟨[], (tokAt ts s.i).text == wAllow, 0, (tokAt ts s.i).pl, 0, 0⟩) := by rw [hb3.block _ (lt_of_get hX2)]; exact hX2
  have hbW3 : Below w.heap.size w w3 := hbW2.trans (hb3.mono hbW2.size)
  clear hbW2 hR2 hX2 hW2 hb3
  rw [e3.out]
  obtain ⟨c0, c1, c2, c3⟩ := hW3.cells
  have hf := hW3.free
  obtain ⟨⟨r0, r1, r2, r3, r4, r5⟩, rf⟩ := itm_cells hR3
  obtain ⟨⟨x0, x1, x2, x3, x4, x5⟩, xf⟩ := itm_cells hX3
  have hx' : (s.i : Int) + 1 ≤ 2000 := by omega
  have s1 := fun v j => set_far w3 rb w.heap.size 1 j v (by omega)
  have s2 := fun v j => set_far w3 rb (w.heap.size + 1 + 1) 1 j v (by omega)
  go_wp2_with fail
  have h4 := hW3.next hnx.1
  have F4 : Fr rb s.pv s.pv w (w3.setCell ⟨rb, 1, none⟩ (.int .i64 ((s.i : Int) + 1))) := (Fr.of_below hbW3).set l0 _ _
  have hR4 : (w3.setCell ⟨rb, 1, none⟩ (.int .i64 ((s.i : Int) + 1))).heap[w.heap.size]? = some (itmObj noItm) := by rw [Below.heap_setCell _ _ _ _ (by simp; omega)]; exact hR3
  have hX4 : (w3.setCell ⟨rb, 1, none⟩ (.int .i64 ((s.i : Int) + 1))).heap[w.heap.size + 1 + 1]? = some (itmObj ⟨[], (tokAt ts s.i).text == wAllow, 0, (tokAt ts s.i).pl, 0, 0⟩) := by rw [Below.heap_setCell _ _ _ _ (by simp; omega)]; exact hX3
  clear hW3 hbW3 hR3 hX3 c0 c1 c2 c3 hf r0 r1 r2 r3 r4 r5 rf x0 x1 x2 x3 x4 x5 xf s1 s2
  generalize w3.setCell ⟨rb, 1, none⟩ (.int .i64 ((s.i : Int) + 1)) = w4 at *
  obtain ⟨s4, hs4⟩ : ∃ s4 : St, s4 = { s with i := s.i + 1 } := ⟨_, rfl⟩
  rw [← hs4] at h4
  have HS4 : Hid _ := hs4
  have e4 : Hid (s4.i = s.i + 1 ∧ s4.bad = s.bad ∧ s4.pv = s.pv ∧ s4.ps = s.ps) := by rw [hs4]; exact ⟨rfl, rfl, rfl, rfl⟩
  have F4' : Fr rb s.pv s4.pv w w4 := by rw [e4.out.2.2.1]; exact F4
  clear hs4 F4
  obtain ⟨c0, c1, c2, c3⟩ := h4.cells
  obtain ⟨k0, k1, k2⟩ := next_word h4
  have hi4 := h4.hi
  have b3 : (0 : Int) ≤ (s4.i : Int) := by omega
  have b4 : (s4.i : Int) < (ts.length : Int) := by omega
  have n0 := World.new_ne w4 _ c0
  have n1 := World.new_ne w4 _ c1
  have m0 := World.new_ne w4 _ k0
  have m1 := World.new_ne w4 _ k1
  have m2 := World.new_ne w4 _ k2
  have hsz4 := F4'.size
  have lR4 := lt_of_get hR4
  have lX4 := lt_of_get hX4
  go_region_held (fun w' => w'.cell? ⟨rb, 0, none⟩ = some (.slice (some ⟨gl, 0, none⟩) ts.length cl) ∧ w'.cell? ⟨rb, 1, none⟩ = some (.int .i64 s4.i) ∧ w'.cell? ⟨gl, s4.i * 3, none⟩ = some (.int .u8 (tokAt ts s4.i).k) ∧ w'.cell? ⟨gl, s4.i * 3 + 1, none⟩ = some (S (tokAt ts s4.i).text) ∧ w'.cell? ⟨gl, s4.i * 3 + 2, none⟩ = some (.int .i64 (tokAt ts s4.i).pl)) (go_keep) (fail)
  rename_i hHeld
  clear hHeld
  have h5 := h4.below (below_word w4 (wordObj (tokAt ts s4.i)))
  have hO5 : ((w4.alloc (wordObj (tokAt ts s4.i))).drew).heap[w4.heap.size]? = some (wordObj (tokAt ts s4.i)) := heap_alloc_new w4 _
  have hR5 : ((w4.alloc (wordObj (tokAt ts s4.i))).drew).heap[w.heap.size]? = some (itmObj noItm) := by rw [(below_word w4 _).block _ lR4]; exact hR4
  have hX5 : ((w4.alloc (wordObj (tokAt ts s4.i))).drew).heap[w.heap.size + 1 + 1]? = some (itmObj ⟨[], (tokAt ts s.i).text == wAllow, 0, (tokAt ts s.i).pl, 0, 0⟩) := by rw [(below_word w4 _).block _ lX4]; exact hX4
  have F5 : Fr rb s.pv s4.pv w (w4.alloc (wordObj (tokAt ts s4.i))).drew := F4'.trans (Fr.of_below (below_word w4 _))
  clear h4 hR4 hX4 F4' c0 c1 c2 c3 k0 k1 k2 n0 n1 m0 m1 m2
  generalize (w4.alloc (wordObj (tokAt ts s4.i))).drew = w5 at *
  have q0 := cell_of_row w5 w4.heap.size 0 _ _ _ hO5
  have q1 := cell_of_row w5 w4.heap.size 1 _ _ _ hO5
  have q2 := cell_of_row w5 w4.heap.size 2 _ _ _ hO5
  obtain ⟨c0, c1, c2, c3⟩ := h5.cells
  have hf := h5.free
  obtain ⟨⟨x0, x1, x2, x3, x4, x5⟩, xf⟩ := itm_cells hX5
  obtain ⟨⟨r0, r1, r2, r3, r4, r5⟩, rf⟩ := itm_cells hR5
  simp only [List.getElem?_toArray, List.getElem?_cons_zero, List.getElem?_cons_succ] at q0 q1 q2
  have ho' : (((tokAt ts s4.i).k : Int) != 111) = false := by rw [e4.out.1]; simp; omega
  have hnx2 : s4.i + 1 < ts.length := by
    rcases Nat.lt_or_ge (s4.i + 1) ts.length with h3 | h3
    · exact h3
    · have h4 : (tokAt ts s4.i).k = 101 := h5.fin s4.i (by omega)
      rw [e4.out.1] at h4; omega
  have u1 : ∀ (W : World) (i j : Nat) (v : Value), (W.setCell ⟨w.heap.size + 1 + 1, i, none⟩ v).cell? ⟨rb, j, none⟩ = W.cell? ⟨rb, j, none⟩ := fun W i j v => set_far W _ rb i j v (by omega)
  have u2 : ∀ (W : World) (i j : Nat) (v : Value), (W.setCell ⟨w.heap.size + 1 + 1, i, none⟩ v).cell? ⟨w4.heap.size, j, none⟩ = W.cell? ⟨w4.heap.size, j, none⟩ := fun W i j v => set_far W _ _ i j v (by omega)
  have u3 : ∀ (W : World) (v : Value), (W.setCell ⟨w.heap.size + 1 + 1, 0, none⟩ v).cell? ⟨w.heap.size + 1 + 1, 4, none⟩ = W.cell? ⟨w.heap.size + 1 + 1, 4, none⟩ := fun W v => cell_set_off W _ 0 4 v (by decide)
  have hx4 : (s4.i : Int) + 1 ≤ 2000 := by omega
  have h6 := h5.but hX5 (w' := ((w5.setCell ⟨w.heap.size + 1 + 1, 0, none⟩ (S (tokAt ts s4.i).text)).setCell ⟨w.heap.size + 1 + 1, 4, none⟩ (.int .i64 (tokAt ts s4.i).pl))) (fun k hk => by rw [Below.heap_setCell _ _ _ _ hk, Below.heap_setCell _ _ _ _ hk])
  have hX6 : ((w5.setCell ⟨w.heap.size + 1 + 1, 0, none⟩ (S (tokAt ts s4.i).text)).setCell ⟨w.heap.size + 1 + 1, 4, none⟩ (.int .i64 (tokAt ts s4.i).pl)).heap[w.heap.size + 1 + 1]? = some (itmObj ⟨(tokAt ts s4.i).text, (tokAt ts s.i).text == wAllow, 0, (tokAt ts s.i).pl, (tokAt ts s4.i).pl, 0⟩) := by
    rw [heap_setCell_same _ _ 4 _ _ _ (heap_setCell_same w5 _ 0 _ _ _ hX5)]; simp
  have hR6 : ((w5.setCell ⟨w.heap.size + 1 + 1, 0, none⟩ (S (tokAt ts s4.i).text)).setCell ⟨w.heap.size + 1 + 1, 4, none⟩ (.int .i64 (tokAt ts s4.i).pl)).heap[w.heap.size]? = some (itmObj noItm) := by rw [Below.heap_setCell _ _ _ _ (by simp; omega), Below.heap_setCell _ _ _ _ (by simp; omega)]; exact hR5
  have F6 : Fr rb s.pv s4.pv w ((w5.setCell ⟨w.heap.size + 1 + 1, 0, none⟩ (S (tokAt ts s4.i).text)).setCell ⟨w.heap.size + 1 + 1, 4, none⟩ (.int .i64 (tokAt ts s4.i).pl)) := (F5.new (by omega) _ _).new (by omega) _ _
  have h7 := h6.next hnx2
  have hX7 : (((w5.setCell ⟨w.heap.size + 1 + 1, 0, none⟩ (S (tokAt ts s4.i).text)).setCell ⟨w.heap.size + 1 + 1, 4, none⟩ (.int .i64 (tokAt ts s4.i).pl)).setCell ⟨rb, 1, none⟩ (.int .i64 ((s4.i : Int) + 1))).heap[w.heap.size + 1 + 1]? = some (itmObj ⟨(tokAt ts s4.i).text, (tokAt ts s.i).text == wAllow, 0, (tokAt ts s.i).pl, (tokAt ts s4.i).pl, 0⟩) := by rw [Below.heap_setCell _ _ _ _ (by simp; omega)]; exact hX6
  have hR7 : (((w5.setCell ⟨w.heap.size + 1 + 1, 0, none⟩ (S (tokAt ts s4.i).text)).setCell ⟨w.heap.size + 1 + 1, 4, none⟩ (.int .i64 (tokAt ts s4.i).pl)).setCell ⟨rb, 1, none⟩ (.int .i64 ((s4.i : Int) + 1))).heap[w.heap.size]? = some (itmObj noItm) := by rw [Below.heap_setCell _ _ _ _ (by simp; omega)]; exact hR6
  have F7 : Fr rb s.pv s4.pv w (((w5.setCell ⟨w.heap.size + 1 + 1, 0, none⟩ (S (tokAt ts s4.i).text)).setCell ⟨w.heap.size + 1 + 1, 4, none⟩ (.int .i64 (tokAt ts s4.i).pl)).setCell ⟨rb, 1, none⟩ (.int .i64 ((s4.i : Int) + 1))) := F6.set l0 _ _
  have HH : Hid _ := And.intro h7 (And.intro hX7 (And.intro hR7 F7))
  clear ho h6 hX6 hR6 F6 h7 hX7 hR7 F7
  go_wp2_with fail
  obtain ⟨h7, hX7, hR7, F7⟩ := HH.out
  clear HH h5 hX5 hR5 hO5 F5 c0 c1 c2 c3 hf q0 q1 q2 x0 x1 x2 x3 x4 x5 xf r0 r1 r2 r3 r4 r5 rf u1 u2 u3
  generalize (((w5.setCell ⟨w.heap.size + 1 + 1, 0, none⟩ (S (tokAt ts s4.i).text)).setCell ⟨w.heap.size + 1 + 1, 4, none⟩ (.int .i64 (tokAt ts s4.i).pl)).setCell ⟨rb, 1, none⟩ (.int .i64 ((s4.i : Int) + 1))) = w6 at *
  refine (must_any h7 [61]).mono ?_
  rintro e w7 ⟨rfl, h8, F8⟩
  have e5 : mustSt ts { s4 with i := s4.i + 1 } [61] = { s4 with i := s4.i + 2 } := by
    unfold mustSt seesB; simp only; rw [e4.out.2.1, H2.out, if_pos (by rw [e4.out.1]; simpa using HI.out)]
  rw [e5] at h8
  have hR5 := F8.far hR7 (by omega) (own_ne h7 hR7 (by simp))
  have hX5 := F8.far hX7 (by omega) (own_ne h7 hX7 (by simp))
  have F6 : Fr rb s.pv s4.pv w w7 := F7.trans F8
  have hs5 := F6.size
  clear e5 F7 F8 hR7 hX7 h7
  have h5 := h8
  clear h8
  obtain ⟨c0, c1, c2, c3⟩ := h5.cells
  simp only at c3
  rw [e4.out.2.1, H2.out] at c3
  go_wp2_with fail
  obtain ⟨a, hPa, hra⟩ := tail_split HR.out
  have HA : Hid _ := hra
  clear hra
  refine (((reads_all f) B rb gl cl ts { s4 with i := s4.i + 2 } w7 a h5 hts (by omega)).1 (.inr ⟨by simp only; rw [e4.out.2.1]; exact H2.out, by unfold NumsOK; simp only; rw [e4.out.2.2.2]; exact hnum, by simp only; rw [e4.out.1, e4.out.2.2.2]; exact hPa⟩)).mono ?_
  rintro e w6' hL
  obtain ⟨s6, n6, rfl, h6, F7, g6, i6, st6, top6⟩ := left_st hL
  have hR6 := F7.far hR5 (by omega) (own_ne h5 hR5 (by simp))
  have hX6 := F7.far hX5 (by omega) (own_ne h5 hX5 (by simp))
  have F8 : Fr rb s.pv s6.pv w w6' := F6.trans F7
  have hs6 := F8.size
  have g6' : s.ps.length ≤ s6.ps.length ∧ s6.ps.length + (s.i + 3) ≤ s.ps.length + s6.i := by
    simp only at g6; rw [e4.out.2.2.2, e4.out.1] at g6; omega
  clear hL hPa F7 F6 h5 hR5 hX5 c0 c1 c2 c3 g6
  obtain ⟨⟨x0, x1, x2, x3, x4, x5⟩, xf⟩ := itm_cells hX6
  go_wp2_with fail
  have h7 := h6.but hX6 (w' := w6'.setCell ⟨w.heap.size + 1 + 1, 2, none⟩ (.int .i64 n6)) (fun k hk => Below.heap_setCell _ _ _ _ hk)
  have hX7 : (w6'.setCell ⟨w.heap.size + 1 + 1, 2, none⟩ (.int .i64 n6)).heap[w.heap.size + 1 + 1]? = some (itmObj ⟨(tokAt ts s4.i).text, (tokAt ts s.i).text == wAllow, n6, (tokAt ts s.i).pl, (tokAt ts s4.i).pl, 0⟩) := by rw [heap_setCell_same w6' _ 2 _ _ _ hX6]; simp
  have hR7 : (w6'.setCell ⟨w.heap.size + 1 + 1, 2, none⟩ (.int .i64 n6)).heap[w.heap.size]? = some (itmObj noItm) := by rw [Below.heap_setCell _ _ _ _ (by simp; omega)]; exact hR6
  have F9 : Fr rb s.pv s6.pv w (w6'.setCell ⟨w.heap.size + 1 + 1, 2, none⟩ (.int .i64 n6)) := F8.new (by omega) _ _
  clear h6 hX6 hR6 F8 x0 x1 x2 x3 x4 x5 xf hs6
  generalize w6'.setCell ⟨w.heap.size + 1 + 1, 2, none⟩ (.int .i64 n6) = w9 at *
  have hs7 := F9.size
  refine (must_any h7 [59]).mono ?_
  rintro e w8 ⟨rfl, h8, F10⟩
  have hR8 := F10.far hR7 (by omega) (own_ne h7 hR7 (by simp))
  have hX8 := F10.far hX7 (by omega) (own_ne h7 hX7 (by simp))
  obtain ⟨p8, v8, j8⟩ := must_ps ts s6 [59]
  have F11 : Fr rb s.pv (mustSt ts s6 [59]).pv w w8 := v8.symm ▸ F9.trans F10
  have hs8 := F11.size
  obtain ⟨ba, bc, hpv⟩ := h8.pv_form
  obtain ⟨c0, c1, c2, c3⟩ := h8.cells
  rw [hpv] at c2
  have HV : Hid _ := hpv
  have hlen : (mustSt ts s6 [59]).ps.length ≤ 2000 := by have := h8.few; have := h8.hi; omega
  have h9 := h8.but hX8 (w' := w8.setCell ⟨w.heap.size + 1 + 1, 5, none⟩ (.int .i64 (mustSt ts s6 [59]).ps.length)) (fun k hk => Below.heap_setCell _ _ _ _ hk)
  have hX9 : (w8.setCell ⟨w.heap.size + 1 + 1, 5, none⟩ (.int .i64 (mustSt ts s6 [59]).ps.length)).heap[w.heap.size + 1 + 1]? = some (itmObj ⟨(tokAt ts s4.i).text, (tokAt ts s.i).text == wAllow, n6, (tokAt ts s.i).pl, (tokAt ts s4.i).pl, (mustSt ts s6 [59]).ps.length⟩) := by rw [heap_setCell_same w8 _ 5 _ _ _ hX8]; simp
  have hR9 : (w8.setCell ⟨w.heap.size + 1 + 1, 5, none⟩ (.int .i64 (mustSt ts s6 [59]).ps.length)).heap[w.heap.size]? = some (itmObj noItm) := by rw [Below.heap_setCell _ _ _ _ (by simp; omega)]; exact hR8
  have F12 : Fr rb s.pv (mustSt ts s6 [59]).pv w (w8.setCell ⟨w.heap.size + 1 + 1, 5, none⟩ (.int .i64 (mustSt ts s6 [59]).ps.length)) := F11.new (by omega) _ _
  obtain ⟨y1, y2⟩ := tail_fin (x := ⟨(tokAt ts s4.i).text, (tokAt ts s.i).text == wAllow, 0, (tokAt ts s.i).pl, (tokAt ts s4.i).pl, 0⟩) (e4.out.1.symm ▸ HA.out) i6.out st6.out top6.out
  have HO : Hid _ := item_out (r := r) (s := s) (w := w) h9 F12 (Nat.le_refl _) hR9 (by rw [p8]; omega) y1 y2
  obtain ⟨⟨x0, x1, x2, x3, x4, x5⟩, xf⟩ := itm_cells hX8
  obtain ⟨⟨z0, z1, z2, z3, z4, z5⟩, zf⟩ := itm_cells hX9
  obtain ⟨⟨r0, r1, r2, r3, r4, r5⟩, rf⟩ := itm_cells hR9
  clear h7 hX7 hR7 F9 F10 hR8 hX8 p8 v8 j8 F11 hpv h9 hX9 hR9 F12 h8 y1 y2
  generalize (mustSt ts s6 [59]).ps.length = np at *
  go_wp2_with fail
  exact bodyPost_ret (v := itmV ⟨(tokAt ts s4.i).text, (tokAt ts s.i).text == wAllow, n6, (tokAt ts s.i).pl, (tokAt ts s4.i).pl, np⟩) (by simp [results, Tryz.results61, go_sem, itmV, cell_set_same, cell_set_off, some_set, r0, r1, r2, r3, r4, r5]) rfl HO.out
end Go.Proofs.YtfkdailfcmnjlaaGreatDoor

namespace Go.Proofs.YtfkdailfcmnjlaaGreatDoor
open Go Go.RowKit
set_option maxRecDepth 100000
attribute [local go_sem ↓] Go.wp_at_zero Go.wp_at_succ

theorem item_any {f : Nat} {B rb gl cl : Nat} {ts : List Tok} {s : St} {w : World} {r : ItR} (h : RS B rb gl cl ts s w) (hts : ∀ t ∈ ts, TokOK t) (hB : B ≤ w.heap.size)
    (hgood : s.bad = false) (hnum : NumsOK s) (hr : itemP f ts s.i (s.ps.map toPt) = some r) :
    Calls Tryz.prog 61 #[.pointer (some ⟨rb, 0, none⟩)] w (LeftI B rb gl cl ts s w r) := by
  unfold itemP at hr
  by_cases h1 : isW (tokAt ts s.i) wLet = true
  · rw [if_pos h1] at hr
    have hx : ((tokAt ts s.i).text == wAllow) = false := by
      unfold isW at h1; simp at h1; rw [h1.2]; decide
    by_cases h2 : (tokAt ts (s.i + 1)).k = 111
    · rw [if_pos h2] at hr
      by_cases h3 : isW (tokAt ts (s.i + 2)) [61] = true
      · rw [if_pos h3] at hr
        exact item_let h hts hB hgood hnum h1 h2 h3 (by rw [hx]; exact hr)
      · rw [if_neg h3] at hr
        simp [itFail] at hr
        exact item_let_noeq h hB hgood h1 h2 h3 hr.symm
    · rw [if_neg h2] at hr
      simp [itFail] at hr
      exact item_let_no h hB hgood h1 h2 hr.symm
  · rw [if_neg h1] at hr
    by_cases ha : isW (tokAt ts s.i) wAllow = true
    · rw [if_pos (by simp [ha])] at hr
      by_cases h3 : isW (tokAt ts (s.i + 1)) wIf = true
      · rw [if_pos h3] at hr
        exact item_allow h hts hB hgood hnum ha h1 h3 hr
      · rw [if_neg h3] at hr
        simp [itFail] at hr
        exact item_allow_no h hB hgood ha h1 h3 hr.symm
    · by_cases hd : isW (tokAt ts s.i) wDeny = true
      · rw [if_pos (by simp [hd])] at hr
        by_cases h3 : isW (tokAt ts (s.i + 1)) wIf = true
        · rw [if_pos h3] at hr
          exact item_deny h hts hB hgood hnum hd h1 h3 hr
        · rw [if_neg h3] at hr
          simp [itFail] at hr
          exact item_deny_no h hB hgood hd h1 h3 hr.symm
      · rw [if_neg (by simp [ha, hd])] at hr
        simp [itFail] at hr
        exact item_none h hB hgood h1 ha hd hr.symm

/-- The parts lie in memory. -/
structure PartsIn (B g cap : Nat) (ps : List PartS) (w : World) : Prop where
  row : w.ownsRow B 169 5 (.slice (some ⟨g, 0, none⟩) ps.length cap) ps.length (partCells ps)
  subs : ∀ p ∈ ps, SubsOK w p
  few : ps.length ≤ 1001

def noPart : PartS := ⟨noTok, [], 0, .slice none 0 0⟩
theorem partCells_at (ps : List PartS) (i : Nat) (hi : i < ps.length) : (partCells ps)[i * 5]? = some (.int .u8 (ps.getD i noPart).tok.k) ∧ (partCells ps)[i * 5 + 1]? = some (S (ps.getD i noPart).tok.text) ∧ (partCells ps)[i * 5 + 2]? = some (.int .i64 (ps.getD i noPart).tok.pl) ∧ (partCells ps)[i * 5 + 3]? = some (ps.getD i noPart).sv ∧ (partCells ps)[i * 5 + 4]? = some (.int .i64 (ps.getD i noPart).n) := by
  induction ps generalizing i with
  | nil => simp at hi
  | cons t ps ih =>
    cases i with
    | zero => simp [partCells]
    | succ i =>
      have := ih i (by simpa using hi)
      have e : partCells (t :: ps) = [.int .u8 t.tok.k, S t.tok.text, .int .i64 t.tok.pl, t.sv, .int .i64 t.n] ++ partCells ps := rfl
      rw [e, show (i + 1) * 5 = i * 5 + 1 + 1 + 1 + 1 + 1 from by omega, show i * 5 + 1 + 1 + 1 + 1 + 1 + 2 = i * 5 + 2 + 1 + 1 + 1 + 1 + 1 from by omega, show i * 5 + 1 + 1 + 1 + 1 + 1 + 3 = i * 5 + 3 + 1 + 1 + 1 + 1 + 1 from by omega, show i * 5 + 1 + 1 + 1 + 1 + 1 + 4 = i * 5 + 4 + 1 + 1 + 1 + 1 + 1 from by omega, show i * 5 + 1 + 1 + 1 + 1 + 1 + 1 = i * 5 + 1 + 1 + 1 + 1 + 1 + 1 from rfl]
      simpa using this
theorem PartsIn.cells {B g cap : Nat} {ps : List PartS} {w : World} (h : PartsIn B g cap ps w) (i : Nat) (hi : i < ps.length) :
    w.cell? ⟨g, i * 5, none⟩ = some (.int .u8 (ps.getD i noPart).tok.k) ∧ w.cell? ⟨g, i * 5 + 1, none⟩ = some (S (ps.getD i noPart).tok.text) ∧ w.cell? ⟨g, i * 5 + 2, none⟩ = some (.int .i64 (ps.getD i noPart).tok.pl) ∧ w.cell? ⟨g, i * 5 + 3, none⟩ = some (ps.getD i noPart).sv ∧ w.cell? ⟨g, i * 5 + 4, none⟩ = some (.int .i64 (ps.getD i noPart).n) := by
  have hc := h.row.cells (g := g) rfl
  obtain ⟨a, b, c, d, e⟩ := partCells_at ps i hi
  have ha : ∀ j, (⟨g, 0, none⟩ : Addr).add j = ⟨g, j, none⟩ := fun j => by unfold Addr.add; split <;> simp_all
  have h0 := hc _ _ a; have h1 := hc _ _ b; have h2 := hc _ _ c; have h3 := hc _ _ d; have h4 := hc _ _ e
  rw [ha] at h0 h1 h2 h3 h4
  exact ⟨h0, h1, h2, h3, h4⟩
theorem PartsIn.below {B g cap : Nat} {ps : List PartS} {w w' : World} (h : PartsIn B g cap ps w) (hb : Below w.heap.size w w') : PartsIn B g cap ps w' :=
  ⟨ownsRow_below h.row hb, fun p hp => (h.subs p hp).of fun k _ hk => hb.block k (lt_of_get hk), h.few⟩
theorem PartsIn.sub {B g cap : Nat} {ps : List PartS} {w : World} (h : PartsIn B g cap ps w) (i : Nat) (hi : i < ps.length) :
    ((ps.getD i noPart).subs = [] ∧ (ps.getD i noPart).sv = .slice none 0 0) ∨ ∃ sb, (ps.getD i noPart).sv = .slice (some ⟨sb, 0, none⟩) (ps.getD i noPart).subs.length (ps.getD i noPart).subs.length ∧ ∀ j, j < (ps.getD i noPart).subs.length → w.cell? ⟨sb, j, none⟩ = some (.int .i64 ((ps.getD i noPart).subs.getD j 0)) := by
  have hm : ps.getD i noPart ∈ ps := by rw [List.getD_eq_getElem?_getD, List.getElem?_eq_getElem hi]; exact List.getElem_mem hi
  rcases h.subs _ hm with e | ⟨sb, e, hh⟩
  · exact .inl e
  · refine .inr ⟨sb, e, fun j hj => ?_⟩
    rw [cell_of_row w sb j _ _ _ hh]
    generalize (ps.getD i noPart).subs = sl at *
    simp [intRow, List.getD_eq_getElem?_getD, hj]
theorem toPt_at (ps : List PartS) (i : Nat) (hi : i < ps.length) : (ps.map toPt).getD i noPt = toPt (ps.getD i noPart) := by
  simp [List.getD_eq_getElem?_getD, hi]

set_option maxHeartbeats 2000000 in
theorem depth_any {B g cap : Nat} {ps : List PartS} (hA : Ahead (ps.map toPt)) (f : Nat) : ∀ (i : Nat) (w : World), PartsIn B g cap ps w → i < f → f ≤ 2000 → i < ps.length →
    Calls Tryz.prog 116 #[.slice (some ⟨g, 0, none⟩) ps.length cap, .int .i64 i] w fun e w' => e = .returned (.int .i64 (dep f (ps.map toPt) i)) ∧ w' = w := by
  induction f with
  | zero => intro i w _ hi; omega
  | succ f ih =>
    intro i w h hif hf hi
    obtain ⟨_, _, _, k3, _⟩ := h.cells i hi
    have hw := h.few
    have b1 : (0 : Int) ≤ (i : Int) := by omega
    have b2 : (i : Int) < (ps.length : Int) := by omega
    have hdp : dep (f + 1) (ps.map toPt) i = foldMax (dep f (ps.map toPt)) (ps.getD i noPart).subs + 1 := by
      rw [dep, toPt_at ps i hi]; rfl
    have hah : (ps.getD i noPart).subs.length ≤ 3 ∧ ∀ j ∈ (ps.getD i noPart).subs, j < i := by have := hA i (by simpa using hi); rw [toPt_at ps i hi] at this; exact this
    have HD : Hid _ := hdp
    have HA : Hid _ := hah
    have HI : Hid _ := ih
    clear hdp hah ih
    rcases h.sub i hi with ⟨e1, e2⟩ | ⟨sb, e2, hcs⟩
    · have H1 : Hid _ := e1
      rw [e2] at k3
      clear e1 e2
      go_enter Tryz.func116, Tryz.ntmps116
      go_wp2_with fail
      go_loop [5, 6] (fun n k => n = .int .i64 0 ∧ k = .int .i64 0) (fun _ _ => 0)
      case atStart => exact ⟨rfl, rfl⟩
      case round =>
        obtain ⟨rfl, rfl⟩ := hrel
        go_wp2_with fail
        go_ret
        refine ⟨ret_int ?_, rfl⟩
        rw [HD.out, H1.out]; rfl
    · rw [e2] at k3
      generalize hS : (ps.getD i noPart).subs = sl at *
      clear e2 hS
      have hsl := HA.out.1
      go_enter Tryz.func116, Tryz.ntmps116
      go_wp2_with fail
      go_loop [5, 6] (fun n k => ∃ j : Nat, j ≤ sl.length ∧ k = .int .i64 j ∧ n = .int .i64 (foldMax (dep f (ps.map toPt)) (sl.take j))) (fun _ k => sl.length - (intOf k).toNat)
      case atStart => exact ⟨0, by omega, rfl, rfl⟩
      case round =>
        obtain ⟨j, hj, rfl, rfl⟩ := hrel
        by_cases hlt : j < sl.length
        · have hcj := hcs j hlt
          have hmem := HA.out.2 sl[j] (List.getElem_mem hlt)
          have hfm := foldMax_take (dep f (ps.map toPt)) sl j hlt
          have d1 := dep_bound f (ps.map toPt) sl[j]
          have d2 := foldMax_le (dep f (ps.map toPt)) (f + 1) (dep_bound f (ps.map toPt)) (sl.take j)
          have HF : Hid _ := hfm
          clear hfm
          go_wp2_with fail
          refine (HI.out sl[j] w h (by omega) (by omega) (by omega)).mono ?_
          rintro e w1 ⟨rfl, rfl⟩
          generalize dep f (ps.map toPt) sl[j] = d at *
          generalize foldMax (dep f (ps.map toPt)) (sl.take j) = m at *
          go_wp2_with fail
          all_goals
            refine ⟨⟨j + 1, by omega, by go_num, val_int ?_⟩, by simp [intOf]; omega⟩
            rw [HF.out]; omega
        · have d2 := foldMax_le (dep f (ps.map toPt)) (f + 1) (dep_bound f (ps.map toPt)) (sl.take j)
          have HE : Hid (sl.take j = sl) := List.take_of_length_le (by omega)
          go_wp2_with fail
          go_ret
          refine ⟨ret_int ?_, rfl⟩
          rw [HE.out, HD.out]; omega
end Go.Proofs.YtfkdailfcmnjlaaGreatDoor

namespace Go.Proofs.YtfkdailfcmnjlaaGreatDoor
open Go Go.RowKit
set_option maxRecDepth 100000

def itmCells (xs : List Itm) : List Value := xs.flatMap fun x => [S x.name, .bool x.allow, .int .i64 x.top, .int .i64 x.pl, .int .i64 x.named, .int .i64 x.parts]
theorem itmCells_len (xs : List Itm) : (itmCells xs).length = xs.length * 6 := by
  induction xs with
  | nil => rfl
  | cons t ts ih => simp [itmCells] at ih ⊢; omega
theorem itmCells_snoc (xs : List Itm) (x : Itm) : itmCells (xs ++ [x]) = itmCells xs ++ [S x.name, .bool x.allow, .int .i64 x.top, .int .i64 x.pl, .int .i64 x.named, .int .i64 x.parts] := by simp [itmCells]
theorem itmCells_at (xs : List Itm) (i : Nat) (hi : i < xs.length) : (itmCells xs)[i * 6]? = some (S xs[i].name) ∧ (itmCells xs)[i * 6 + 1]? = some (.bool xs[i].allow) ∧ (itmCells xs)[i * 6 + 2]? = some (.int .i64 xs[i].top) ∧ (itmCells xs)[i * 6 + 3]? = some (.int .i64 xs[i].pl) ∧ (itmCells xs)[i * 6 + 4]? = some (.int .i64 xs[i].named) ∧ (itmCells xs)[i * 6 + 5]? = some (.int .i64 xs[i].parts) := by
  induction xs generalizing i with
  | nil => simp at hi
  | cons t xs ih =>
    cases i with
    | zero => simp [itmCells]
    | succ i =>
      have := ih i (by simpa using hi)
      have e : itmCells (t :: xs) = [S t.name, .bool t.allow, .int .i64 t.top, .int .i64 t.pl, .int .i64 t.named, .int .i64 t.parts] ++ itmCells xs := rfl
      rw [e, show (i + 1) * 6 = i * 6 + 1 + 1 + 1 + 1 + 1 + 1 from by omega, show i * 6 + 1 + 1 + 1 + 1 + 1 + 1 + 2 = i * 6 + 2 + 1 + 1 + 1 + 1 + 1 + 1 from by omega, show i * 6 + 1 + 1 + 1 + 1 + 1 + 1 + 3 = i * 6 + 3 + 1 + 1 + 1 + 1 + 1 + 1 from by omega, show i * 6 + 1 + 1 + 1 + 1 + 1 + 1 + 4 = i * 6 + 4 + 1 + 1 + 1 + 1 + 1 + 1 from by omega, show i * 6 + 1 + 1 + 1 + 1 + 1 + 1 + 5 = i * 6 + 5 + 1 + 1 + 1 + 1 + 1 + 1 from by omega]
      simpa using this

/-- The items lie in memory. -/
structure ItemsIn (B : Nat) (iv : Value) (xs : List Itm) (w : World) : Prop where
  row : w.ownsRow B 95 6 iv xs.length (itmCells xs)
  few : xs.length ≤ 1001
theorem ItemsIn.below {B : Nat} {iv : Value} {xs : List Itm} {w w' : World} (h : ItemsIn B iv xs w) (hb : Below w.heap.size w w') : ItemsIn B iv xs w' := ⟨ownsRow_below h.row hb, h.few⟩
theorem ItemsIn.form {B : Nat} {iv : Value} {xs : List Itm} {w : World} (h : ItemsIn B iv xs w) : (iv = .slice none 0 0 ∧ xs.length = 0) ∨ ∃ g c, iv = .slice (some ⟨g, 0, none⟩) xs.length c := by
  rcases h.row.2 with e | ⟨g, cap, cur, e, _⟩
  · exact .inl e
  · exact .inr ⟨g, cap, e⟩
theorem ItemsIn.cells {B g c : Nat} {xs : List Itm} {w : World} (h : ItemsIn B (.slice (some ⟨g, 0, none⟩) xs.length c) xs w) (i : Nat) (hi : i < xs.length) :
    w.cell? ⟨g, i * 6, none⟩ = some (S xs[i].name) ∧ w.cell? ⟨g, i * 6 + 1, none⟩ = some (.bool xs[i].allow) ∧ w.cell? ⟨g, i * 6 + 2, none⟩ = some (.int .i64 xs[i].top) ∧ w.cell? ⟨g, i * 6 + 3, none⟩ = some (.int .i64 xs[i].pl) ∧ w.cell? ⟨g, i * 6 + 4, none⟩ = some (.int .i64 xs[i].named) ∧ w.cell? ⟨g, i * 6 + 5, none⟩ = some (.int .i64 xs[i].parts) := by
  have hc := h.row.cells (g := g) rfl
  obtain ⟨a, b, c, d, e, f⟩ := itmCells_at xs i hi
  have ha : ∀ j, (⟨g, 0, none⟩ : Addr).add j = ⟨g, j, none⟩ := fun j => by unfold Addr.add; split <;> simp_all
  have h0 := hc _ _ a; have h1 := hc _ _ b; have h2 := hc _ _ c; have h3 := hc _ _ d; have h4 := hc _ _ e; have h5 := hc _ _ f
  rw [ha] at h0 h1 h2 h3 h4 h5
  exact ⟨h0, h1, h2, h3, h4, h5⟩

set_option maxHeartbeats 2000000 in
theorem let_any {B : Nat} {iv : Value} {xs : List Itm} {w : World} (h : ItemsIn B iv xs w) (pa : Option Addr) (pn pc : Nat) (s : List UInt8) (k : Nat) (hk : k ≤ xs.length) :
    Calls Tryz.prog 90 #[.agg #[iv, .slice pa pn pc], S s, .int .i64 k] w fun e w' => e = .returned (.int .i64 (letIx xs s k)) ∧ Below w.heap.size w w' := by
  have hb := (Below.refl w.heap.size w).alloc (Nat.le_refl _) (.cells #[iv, .slice pa pn pc] 90)
  rcases h.form with ⟨rfl, h0⟩ | ⟨g, c, rfl⟩
  · have hk0 : k = 0 := by omega
    subst hk0
    have HB : Hid _ := hb
    clear hb
    go_enter Tryz.func90, Tryz.ntmps90
    go_wp2_with fail
    go_loop [7] (fun i => i = .int .i64 0) (fun _ => 0)
    case atStart => rfl
    case round =>
      subst hrel
      go_wp2_with fail
      go_ret
      exact ⟨ret_int (by rw [letIx_zero]), HB.out⟩
  · have hf := h.few
    have h' := h.below hb
    have HB : Hid _ := hb
    clear hb
    go_enter Tryz.func90, Tryz.ntmps90
    go_wp2_with fail
    go_loop [7] (fun i => ∃ j : Nat, j ≤ k ∧ i = .int .i64 j ∧ Hid (letIx xs s k = (if letIx (xs.drop j) s (k - j) < 0 then -1 else letIx (xs.drop j) s (k - j) + j))) (fun i => k - (intOf i).toNat)
    case atStart =>
      refine ⟨0, Nat.zero_le _, rfl, ?_⟩
      have := letIx_ge xs s k
      show _ = _; simp; omega
    case round =>
      obtain ⟨j, hj, rfl, HL⟩ := hrel
      by_cases hlt : j < k
      · have hjl : j < xs.length := by omega
        have c0 := (h'.cells j hjl).1
        have hst := letIx_step xs s j (k - j) hjl (by omega)
        have HS : Hid _ := hst
        have b1 : (0 : Int) ≤ (j : Int) := by omega
        have b2 : (j : Int) < (xs.length : Int) := by omega
        clear hst
        go_wp2_with fail
        · go_ret
          refine ⟨ret_int ?_, HB.out⟩
          rw [HL.out, HS.out]
          simp [*]
        · refine ⟨⟨j + 1, by omega, by go_num, ?_⟩, by simp [intOf]; omega⟩
          show _ = _
          have := letIx_ge (xs.drop (j + 1)) s (k - j - 1)
          rw [HL.out, HS.out, show k - (j + 1) = k - j - 1 from by omega]
          simp [*]
          split <;> omega
      · go_wp2_with fail
        go_ret
        have e : k - j = 0 := by omega
        refine ⟨ret_int ?_, HB.out⟩
        rw [HL.out, e, letIx_zero]; rfl

/-- What 'many' answers. -/
def placeV (o : Option Nat) : Value := match o with
  | some p => .int .i64 p
  | none => .int .i64 (-1)

theorem many_step (L : List Pt) (xs : List Itm) (j lets : Nat) (hj : j < xs.length) : manyAt L (xs.drop j) lets j =
    if 10 < lets + (if xs[j].name == [] then 0 else 1) ∨ 20 < j + 1 - (lets + (if xs[j].name == [] then 0 else 1)) ∨ 200 < xs[j].parts ∨ 20 < dep (xs[j].top + 1) L xs[j].top then some xs[j].pl
    else manyAt L (xs.drop (j + 1)) (lets + (if xs[j].name == [] then 0 else 1)) (j + 1) := by
  rw [List.drop_eq_getElem_cons hj, manyAt]

set_option maxHeartbeats 4000000 in
theorem many_any {B g cap : Nat} {iv : Value} {xs : List Itm} {ps : List PartS} {w : World} (h : ItemsIn B iv xs w) (hp : PartsIn B g cap ps w) (hA : Ahead (ps.map toPt)) (hT : ∀ x ∈ xs, x.top < ps.length) (hq : ∀ x ∈ xs, x.parts ≤ 1001) :
    Calls Tryz.prog 62 #[.agg #[iv, .slice (some ⟨g, 0, none⟩) ps.length cap]] w fun e w' => e = .returned (placeV (manyAt (ps.map toPt) xs 0 0)) ∧ Below w.heap.size w w' := by
  have hb := (Below.refl w.heap.size w).alloc (Nat.le_refl _) (.cells #[iv, .slice (some ⟨g, 0, none⟩) ps.length cap] 90)
  rcases h.form with ⟨rfl, h0⟩ | ⟨gi, c, rfl⟩
  · have HB : Hid _ := hb
    have HE : Hid (manyAt (ps.map toPt) xs 0 0 = none) := by
      show _ = _; cases xs with
      | nil => rfl
      | cons => simp at h0
    clear hb h0
    go_enter Tryz.func62, Tryz.ntmps62
    go_wp2_with fail
    go_loop [3, 4] (fun n i => n = .int .i64 0 ∧ i = .int .i64 0) (fun _ _ => 0)
    case atStart => exact ⟨rfl, rfl⟩
    case round =>
      obtain ⟨rfl, rfl⟩ := hrel
      go_wp2_with fail
      go_ret
      exact ⟨by rw [HE.out]; rfl, HB.out⟩
  · have hbx : (w.alloc (.cells #[.slice (some ⟨gi, 0, none⟩) xs.length c, .slice (some ⟨g, 0, none⟩) ps.length cap] 90)).heap[w.heap.size]? = some (.cells #[.slice (some ⟨gi, 0, none⟩) xs.length c, .slice (some ⟨g, 0, none⟩) ps.length cap] 90 (0, 0)) := heap_alloc_new w _
    have hf := h.few
    have hpf := hp.few
    have HX : Hid _ := hbx
    clear hbx
    go_enter Tryz.func62, Tryz.ntmps62
    go_wp2_with fail
    go_loopw [3, 4] (fun n i wr => ∃ (lets j : Nat), lets ≤ j ∧ j ≤ xs.length ∧ n = .int .i64 lets ∧ i = .int .i64 j ∧ Hid (manyAt (ps.map toPt) xs 0 0 = manyAt (ps.map toPt) (xs.drop j) lets j) ∧ Below w.heap.size w wr ∧ wr.heap[w.heap.size]? = some (.cells #[.slice (some ⟨gi, 0, none⟩) xs.length c, .slice (some ⟨g, 0, none⟩) ps.length cap] 90 (0, 0))) (fun _ i _ => xs.length - (intOf i).toNat)
    case atStart => exact ⟨0, 0, Nat.le_refl _, Nat.zero_le _, rfl, rfl, rfl, hb, HX.out⟩
    case round =>
      obtain ⟨lets, j, hlj, hj, rfl, rfl, HM, hbw, hbx⟩ := hrel
      have q0 := cell_of_row wr w.heap.size 0 _ _ _ hbx
      have q1 := cell_of_row wr w.heap.size 1 _ _ _ hbx
      have hlw := lt_of_get hbx
      simp only [List.getElem?_toArray, List.getElem?_cons_zero, List.getElem?_cons_succ] at q0 q1
      by_cases hlt : j < xs.length
      · have hi' := h.below hbw
        have hp' := hp.below hbw
        obtain ⟨c0, c1, c2, c3, c4, c5⟩ := hi'.cells j hlt
        have hst := many_step (ps.map toPt) xs j lets hlt
        have HS : Hid _ := hst
        have hm : xs[j] ∈ xs := List.getElem_mem hlt
        have hTj := hT _ hm
        have hqj := hq _ hm
        have b1 : (0 : Int) ≤ (j : Int) := by omega
        have b2 : (j : Int) < (xs.length : Int) := by omega
        have lg := World.block_lt_of_cell? wr _ c0
        simp only at lg
        have hd := dep_bound (xs[j].top + 1) (ps.map toPt) xs[j].top
        have hnx : wr.heap.size ≠ w.heap.size := by omega
        have hng : wr.heap.size ≠ gi := by omega
        clear hst hm
        have hPN := hp'.below ((Below.refl _ _).alloc (Nat.le_refl _) (.cells #[S xs[j].name, .bool xs[j].allow, .int .i64 xs[j].top, .int .i64 xs[j].pl, .int .i64 xs[j].named, .int .i64 xs[j].parts] 95))
        have hbN : Hid (Below w.heap.size w (wr.alloc (.cells #[S xs[j].name, .bool xs[j].allow, .int .i64 xs[j].top, .int .i64 xs[j].pl, .int .i64 xs[j].named, .int .i64 xs[j].parts] 95))) := hbw.alloc (by omega) _
        have hbX : Hid ((wr.alloc (.cells #[S xs[j].name, .bool xs[j].allow, .int .i64 xs[j].top, .int .i64 xs[j].pl, .int .i64 xs[j].named, .int .i64 xs[j].parts] 95)).heap[w.heap.size]? = some (.cells #[.slice (some ⟨gi, 0, none⟩) xs.length c, .slice (some ⟨g, 0, none⟩) ps.length cap] 90 (0, 0))) := by show _ = _; rw [Below.heap_alloc _ _ _ hlw]; exact hbx
        clear hi' hp' hbx
        cases hnm : (xs[j].name == []) with
        | true =>
          have hn' : (xs[j].name == ([] : List UInt8)) = true := hnm
          have HQ : Hid (manyAt (ps.map toPt) (xs.drop j) lets j = if 10 < lets ∨ 20 < j + 1 - lets ∨ 200 < xs[j].parts ∨ 20 < dep (xs[j].top + 1) (ps.map toPt) xs[j].top then some xs[j].pl else manyAt (ps.map toPt) (xs.drop (j + 1)) lets (j + 1)) := by
            show _ = _; rw [HS.out, hnm]; rfl
          clear hnm HS
          go_wp2_with fail
          refine (depth_any hA (xs[j].top + 1) xs[j].top _ hPN (by omega) (by omega) hTj).mono ?_
          rintro e w1 ⟨rfl, rfl⟩
          clear hPN
          generalize dep (xs[j].top + 1) (ps.map toPt) xs[j].top = d at *
          go_wp2_with fail
          all_goals first
            | (go_ret
               refine ⟨?_, hbN.out⟩
               rw [HM.out, HQ.out, if_pos (by omega)]; rfl)
            | (go_roundw
               case rel => exact ⟨lets, j + 1, by omega, by omega, by go_num, by go_num, (by show _ = _; rw [HM.out, HQ.out, if_neg (by omega)]), hbN.out, hbX.out⟩
               case measure => simp [intOf]; omega)
        | false =>
          have hn' : (xs[j].name == ([] : List UInt8)) = false := hnm
          have HQ : Hid (manyAt (ps.map toPt) (xs.drop j) lets j = if 10 < (lets + 1) ∨ 20 < j + 1 - (lets + 1) ∨ 200 < xs[j].parts ∨ 20 < dep (xs[j].top + 1) (ps.map toPt) xs[j].top then some xs[j].pl else manyAt (ps.map toPt) (xs.drop (j + 1)) (lets + 1) (j + 1)) := by
            show _ = _; rw [HS.out, hnm]; rfl
          clear hnm HS
          go_wp2_with fail
          refine (depth_any hA (xs[j].top + 1) xs[j].top _ hPN (by omega) (by omega) hTj).mono ?_
          rintro e w1 ⟨rfl, rfl⟩
          clear hPN
          generalize dep (xs[j].top + 1) (ps.map toPt) xs[j].top = d at *
          go_wp2_with fail
          all_goals first
            | (go_ret
               refine ⟨?_, hbN.out⟩
               rw [HM.out, HQ.out, if_pos (by omega)]; rfl)
            | (go_roundw
               case rel => exact ⟨(lets + 1), j + 1, by omega, by omega, by go_num, by go_num, (by show _ = _; rw [HM.out, HQ.out, if_neg (by omega)]), hbN.out, hbX.out⟩
               case measure => simp [intOf]; omega)
      · go_wp2_with fail
        go_ret
        refine ⟨?_, hbw⟩
        rw [HM.out, List.drop_of_length_le (by omega)]; rfl
end Go.Proofs.YtfkdailfcmnjlaaGreatDoor

namespace Go.Proofs.YtfkdailfcmnjlaaGreatDoor
open Go Go.RowKit
set_option maxRecDepth 100000

abbrev polObj (gi n c g m cap : Nat) : Obj := .cells #[.slice (some ⟨gi, 0, none⟩) n c, .slice (some ⟨g, 0, none⟩) m cap] 90

theorem names_step (xs : List Itm) (L : List Pt) (j fr : Nat) (hj : j < xs.length) : namesAt xs L (xs.drop j) fr j =
    if xs[j].name ≠ [] ∧ 0 ≤ letIx xs xs[j].name j then some xs[j].named
    else (wrongAt xs L j (xs[j].parts - fr) fr none).or (namesAt xs L (xs.drop (j + 1)) xs[j].parts (j + 1)) := by
  rw [List.drop_eq_getElem_cons hj, namesAt]
theorem wrong_step (xs : List Itm) (L : List Pt) (i q k : Nat) (o : Option Nat) (h : k < q) : wrongAt xs L i (q - k) k o = wrongAt xs L i (q - (k + 1)) (k + 1) (wrongStep xs i (L.getD k noPt).tok o) := by
  obtain ⟨c, hc⟩ : ∃ c, q - k = c + 1 := ⟨q - k - 1, by omega⟩
  rw [hc, wrongAt, show q - (k + 1) = c from by omega]

set_option maxHeartbeats 8000000 in
theorem names_any {B g cap : Nat} {iv : Value} {xs : List Itm} {ps : List PartS} {w : World} (h : ItemsIn B iv xs w) (hp : PartsIn B g cap ps w) (hq : ∀ x ∈ xs, x.parts ≤ ps.length) :
    Calls Tryz.prog 63 #[.agg #[iv, .slice (some ⟨g, 0, none⟩) ps.length cap]] w fun e w' => e = .returned (placeV (namesAt xs (ps.map toPt) xs 0 0)) ∧ Below w.heap.size w w' := by
  have hb := (Below.refl w.heap.size w).alloc (Nat.le_refl _) (.cells #[iv, .slice (some ⟨g, 0, none⟩) ps.length cap] 90)
  rcases h.form with ⟨rfl, h0⟩ | ⟨gi, c, rfl⟩
  · have HB : Hid _ := hb
    have HE : Hid (namesAt xs (ps.map toPt) xs 0 0 = none) := by
      show _ = _; cases xs with
      | nil => rfl
      | cons => simp at h0
    clear hb h0
    go_enter Tryz.func63, Tryz.ntmps63
    go_wp2_with fail
    go_loop [3, 4] (fun n i => n = .int .i64 0 ∧ i = .int .i64 0) (fun _ _ => 0)
    case atStart => exact ⟨rfl, rfl⟩
    case round =>
      obtain ⟨rfl, rfl⟩ := hrel
      go_wp2_with fail
      go_ret
      exact ⟨by rw [HE.out]; rfl, HB.out⟩
  · have hbx : (w.alloc (polObj gi xs.length c g ps.length cap)).heap[w.heap.size]? = some (polObj gi xs.length c g ps.length cap) := heap_alloc_new w _
    have hf := h.few
    have hpf := hp.few
    have HX : Hid _ := hbx
    clear hbx
    go_enter Tryz.func63, Tryz.ntmps63
    go_wp2_with fail
    go_loopw [3, 4] (fun n i wr => ∃ (fr j : Nat), fr ≤ ps.length ∧ j ≤ xs.length ∧ n = .int .i64 fr ∧ i = .int .i64 j ∧ Hid (namesAt xs (ps.map toPt) xs 0 0 = namesAt xs (ps.map toPt) (xs.drop j) fr j) ∧ Below w.heap.size w wr ∧ wr.heap[w.heap.size]? = some (polObj gi xs.length c g ps.length cap)) (fun _ i _ => xs.length - (intOf i).toNat)
    case atStart => exact ⟨0, 0, Nat.zero_le _, Nat.zero_le _, rfl, rfl, rfl, hb, HX.out⟩
    case round =>
      obtain ⟨fr, j, hfr, hj, rfl, rfl, HM, hbw, hbx⟩ := hrel
      have q0 := cell_of_row wr w.heap.size 0 _ _ _ hbx
      have q1 := cell_of_row wr w.heap.size 1 _ _ _ hbx
      have hlw := lt_of_get hbx
      simp only [List.getElem?_toArray, List.getElem?_cons_zero, List.getElem?_cons_succ] at q0 q1
      by_cases hlt : j < xs.length
      · have hi' := h.below hbw
        obtain ⟨c0, c1, c2, c3, c4, c5⟩ := hi'.cells j hlt
        have HS : Hid _ := names_step xs (ps.map toPt) j fr hlt
        have hm : xs[j] ∈ xs := List.getElem_mem hlt
        have hqj := hq _ hm
        have b1 : (0 : Int) ≤ (j : Int) := by omega
        have b2 : (j : Int) < (xs.length : Int) := by omega
        have lg := World.block_lt_of_cell? wr _ c0
        simp only at lg
        have hnx : wr.heap.size ≠ w.heap.size := by omega
        have hng : wr.heap.size ≠ gi := by omega
        clear hm
        have hbN : Below w.heap.size w (wr.alloc (itmObj xs[j])) := hbw.alloc (by omega) _
        have hbX : (wr.alloc (itmObj xs[j])).heap[w.heap.size]? = some (polObj gi xs.length c g ps.length cap) := by rw [Below.heap_alloc _ _ _ hlw]; exact hbx
        have hbI : (wr.alloc (itmObj xs[j])).heap[wr.heap.size]? = some (itmObj xs[j]) := heap_alloc_new wr _
        have HN : Hid _ := And.intro hbN (And.intro hbX hbI)
        clear hi' hbx hbN hbX hbI
        have hge := letIx_ge xs xs[j].name j
        have hcase : ((xs[j].name == ([] : List UInt8)) = true ∧ Hid (namesAt xs (ps.map toPt) (xs.drop j) fr j = (wrongAt xs (ps.map toPt) j (xs[j].parts - fr) fr none).or (namesAt xs (ps.map toPt) (xs.drop (j + 1)) xs[j].parts (j + 1)))) ∨
            ((xs[j].name == ([] : List UInt8)) = false ∧ letIx xs xs[j].name j < 0 ∧ Hid (namesAt xs (ps.map toPt) (xs.drop j) fr j = (wrongAt xs (ps.map toPt) j (xs[j].parts - fr) fr none).or (namesAt xs (ps.map toPt) (xs.drop (j + 1)) xs[j].parts (j + 1)))) ∨
            ((xs[j].name == ([] : List UInt8)) = false ∧ 0 ≤ letIx xs xs[j].name j ∧ Hid (namesAt xs (ps.map toPt) (xs.drop j) fr j = some xs[j].named)) := by
          have hS := HS.out
          cases hnm : (xs[j].name == []) with
          | true => exact .inl ⟨rfl, by show _ = _; rw [hS, if_neg]; intro e; simp at hnm; exact e.1 hnm⟩
          | false =>
            by_cases hl : 0 ≤ letIx xs xs[j].name j
            · exact .inr (.inr ⟨rfl, hl, by show _ = _; rw [hS, if_pos ⟨by simpa using hnm, hl⟩]⟩)
            · exact .inr (.inl ⟨rfl, by omega, by show _ = _; rw [hS, if_neg (fun e => hl e.2)]⟩)
        clear HS
        rcases hcase with ⟨hn', HQ⟩ | ⟨hn', hl, HQ⟩ | ⟨hn', hl, HQ⟩
        rotate_right
        · go_wp2_with fail
          obtain ⟨hbN, hbX, hbI⟩ := HN.out
          refine (let_any (h.below hbN) _ _ _ xs[j].name j hj).mono ?_
          rintro e w2 ⟨rfl, hb2⟩
          have hI2 : w2.heap[wr.heap.size]? = some (itmObj xs[j]) := by rw [hb2.block _ (lt_of_get hbI)]; exact hbI
          have hB2 : Below w.heap.size w w2 := hbN.trans (hb2.mono hbN.size)
          obtain ⟨⟨x0, x1, x2, x3, x4, x5⟩, xf⟩ := itm_cells hI2
          clear hbN hbX hbI hb2 q0 q1 c0 c1 c2 c3 c4 c5
          generalize letIx xs xs[j].name j = m at *
          go_wp2_with fail
          go_ret
          exact ⟨by rw [HM.out, HQ.out]; rfl, hB2⟩
        · go_wp2_with fail
          obtain ⟨hbN, hbX, hbI⟩ := HN.out
          clear HN q0 q1 c0 c1 c2 c3 c4 c5
          generalize wr.alloc (itmObj xs[j]) = w2 at *
          have hB2 := hbN
          have hX2 := hbX
          have hI2 := hbI
          clear hbN hbX hbI
          generalize hbi : wr.heap.size = bI at *
          clear hbi
          go_loopw [7, 8] (fun o k wk => ∃ (oo : Option Nat) (kk : Nat), fr ≤ kk ∧ kk ≤ ps.length ∧ o = placeV oo ∧ k = .int .i64 kk ∧ Hid (wrongAt xs (ps.map toPt) j (xs[j].parts - fr) fr none = wrongAt xs (ps.map toPt) j (xs[j].parts - kk) kk oo) ∧ Below w.heap.size w wk ∧ wk.heap[w.heap.size]? = some (polObj gi xs.length c g ps.length cap) ∧ wk.heap[bI]? = some (itmObj xs[j])) (fun _ k _ => xs[j].parts - (intOf k).toNat)
          case atStart => exact ⟨none, fr, Nat.le_refl _, hfr, rfl, rfl, rfl, hB2, hX2, hI2⟩
          case round =>
            obtain ⟨oo, kk, hfk, hkp, rfl, rfl, HW, hBk, hXk, hIk⟩ := hrel
            have q0 := cell_of_row wr w.heap.size 0 _ _ _ hXk
            have q1 := cell_of_row wr w.heap.size 1 _ _ _ hXk
            obtain ⟨⟨x0, x1, x2, x3, x4, x5⟩, xf⟩ := itm_cells hIk
            have hl1 := lt_of_get hXk
            have hl2 := lt_of_get hIk
            simp only [List.getElem?_toArray, List.getElem?_cons_zero, List.getElem?_cons_succ] at q0 q1
            by_cases hk : kk < xs[j].parts
            · have hkl : kk < ps.length := by omega
              have hpk := hp.below hBk
              obtain ⟨k0, k1, k2, k3, k4⟩ := hpk.cells kk hkl
              have lp := World.block_lt_of_cell? wr _ k0
              simp only at lp
              have HT : Hid _ := wrong_step xs (ps.map toPt) j xs[j].parts kk oo hk
              have hpt : ((ps.map toPt).getD kk noPt).tok = (ps.getD kk noPart).tok := by rw [toPt_at ps kk hkl]; rfl
              have HPT : Hid _ := hpt
              have b3 : (0 : Int) ≤ (kk : Int) := by omega
              have b4 : (kk : Int) < (ps.length : Int) := by omega
              have n1 : wr.heap.size ≠ w.heap.size := by omega
              have n2 : wr.heap.size ≠ bI := by omega
              have n3 : wr.heap.size ≠ g := by omega
              have hBn : Below w.heap.size w (wr.alloc (wordObj (ps.getD kk noPart).tok)) := hBk.alloc (by have := hBk.size; omega) _
              have hXn : (wr.alloc (wordObj (ps.getD kk noPart).tok)).heap[w.heap.size]? = some (polObj gi xs.length c g ps.length cap) := by rw [Below.heap_alloc _ _ _ hl1]; exact hXk
              have hIn : (wr.alloc (wordObj (ps.getD kk noPart).tok)).heap[bI]? = some (itmObj xs[j]) := by rw [Below.heap_alloc _ _ _ hl2]; exact hIk
              have hWn : (wr.alloc (wordObj (ps.getD kk noPart).tok)).heap[wr.heap.size]? = some (wordObj (ps.getD kk noPart).tok) := heap_alloc_new wr _
              have HN : Hid _ := And.intro hBn (And.intro hXn (And.intro hIn hWn))
              clear hpt hpk k3 k4 hBk hXk hIk hBn hXn hIn hWn
              generalize (ps.getD kk noPart).tok = t at *
              by_cases ht : t.k = 111
              · have ht1 : ((t.k : Int) != 111) = false := by simp; omega
                have HT1 : Hid _ := ht
                clear ht
                go_wp2_with fail
                obtain ⟨hBn, hXn, hIn, hWn⟩ := HN.out
                have hge := letIx_ge xs t.text j
                refine (let_any (h.below hBn) _ _ _ t.text j hj).mono ?_
                rintro e w4 ⟨rfl, hb4⟩
                have hX4 : w4.heap[w.heap.size]? = some (polObj gi xs.length c g ps.length cap) := by rw [hb4.block _ (lt_of_get hXn)]; exact hXn
                have hI4 : w4.heap[bI]? = some (itmObj xs[j]) := by rw [hb4.block _ (lt_of_get hIn)]; exact hIn
                have hW4 : w4.heap[wr.heap.size]? = some (wordObj t) := by rw [hb4.block _ (lt_of_get hWn)]; exact hWn
                have hB4 : Below w.heap.size w w4 := hBn.trans (hb4.mono hBn.size)
                have r2 := cell_of_row w4 wr.heap.size 2 _ _ _ hW4
                simp only [List.getElem?_toArray, List.getElem?_cons_zero, List.getElem?_cons_succ] at r2
                have HZ : Hid (wrongStep xs j t oo = if letIx xs t.text j < 0 then better t.pl oo else oo) := by
                  show _ = _; unfold wrongStep
                  by_cases hl : letIx xs t.text j < 0
                  · rw [if_pos ⟨HT1.out, hl⟩, if_pos hl]
                  · rw [if_neg (fun e => hl e.2), if_neg hl]
                clear HN hBn hXn hIn hWn hb4 q0 q1 x0 x1 x2 x3 x4 x5 xf k0 k1 k2
                generalize letIx xs t.text j = m at *
                by_cases hm : m < 0
                · have HZ' : Hid (wrongStep xs j t oo = better t.pl oo) := by show _ = _; rw [HZ.out, if_pos hm]
                  clear HZ
                  cases oo with
                  | none =>
                    unfold placeV
                    go_wp2_with fail
                    go_roundw
                    case rel => exact ⟨some t.pl, kk + 1, by omega, by omega, rfl, by go_num, (by show _ = _; rw [HW.out, HT.out, HPT.out, HZ'.out]; rfl), hB4, hX4, hI4⟩
                    case measure => simp [intOf]; omega
                  | some p =>
                    by_cases hpl : t.pl < p
                    · have hE : Hid (better t.pl (some p) = some t.pl) := if_pos hpl
                      unfold placeV
                      go_wp2_with fail
                      go_roundw
                      case rel => exact ⟨some t.pl, kk + 1, by omega, by omega, rfl, by go_num, (by show _ = _; rw [HW.out, HT.out, HPT.out, HZ'.out, hE.out]), hB4, hX4, hI4⟩
                      case measure => simp [intOf]; omega
                    · have hE : Hid (better t.pl (some p) = some p) := if_neg hpl
                      unfold placeV
                      go_wp2_with fail
                      go_roundw
                      case rel => exact ⟨some p, kk + 1, by omega, by omega, rfl, by go_num, (by show _ = _; rw [HW.out, HT.out, HPT.out, HZ'.out, hE.out]), hB4, hX4, hI4⟩
                      case measure => simp [intOf]; omega
                · have HZ' : Hid (wrongStep xs j t oo = oo) := by show _ = _; rw [HZ.out, if_neg hm]
                  clear HZ
                  cases oo with
                  | none =>
                    unfold placeV
                    go_wp2_with fail
                    go_roundw
                    case rel => exact ⟨none, kk + 1, by omega, by omega, rfl, by go_num, (by show _ = _; rw [HW.out, HT.out, HPT.out, HZ'.out]), hB4, hX4, hI4⟩
                    case measure => simp [intOf]; omega
                  | some p =>
                    unfold placeV
                    go_wp2_with fail
                    go_roundw
                    case rel => exact ⟨some p, kk + 1, by omega, by omega, rfl, by go_num, (by show _ = _; rw [HW.out, HT.out, HPT.out, HZ'.out]), hB4, hX4, hI4⟩
                    case measure => simp [intOf]; omega
              · have ht1 : ((t.k : Int) != 111) = true := by simp; omega
                have HZ : Hid (wrongStep xs j t oo = oo) := by show _ = _; unfold wrongStep; rw [if_neg (fun e => ht e.1)]
                clear ht
                go_wp2_with fail
                go_roundw
                case rel =>
                  obtain ⟨hBn, hXn, hIn, hWn⟩ := HN.out
                  exact ⟨oo, kk + 1, by omega, by omega, rfl, by go_num, (by show _ = _; rw [HW.out, HT.out, HPT.out, HZ.out]), hBn, hXn, hIn⟩
                case measure => simp [intOf]; omega
            · have HE : Hid (wrongAt xs (ps.map toPt) j (xs[j].parts - fr) fr none = oo) := by
                show _ = _; rw [HW.out, show xs[j].parts - kk = 0 from by omega]; rfl
              cases oo with
              | none =>
                unfold placeV
                go_wp2_with fail
                go_roundw
                case rel => exact ⟨xs[j].parts, j + 1, by omega, by omega, rfl, by go_num, (by show _ = _; rw [HM.out, HQ.out, HE.out]; rfl), hBk, hXk⟩
                case measure => simp [intOf]; omega
              | some p =>
                unfold placeV
                go_wp2_with fail
                go_ret
                exact ⟨by rw [HM.out, HQ.out, HE.out]; rfl, hBk⟩
        · go_wp2_with fail
          obtain ⟨hbN, hbX, hbI⟩ := HN.out
          refine (let_any (h.below hbN) _ _ _ xs[j].name j hj).mono ?_
          rintro e w2 ⟨rfl, hb2⟩
          have hI2 : w2.heap[wr.heap.size]? = some (itmObj xs[j]) := by rw [hb2.block _ (lt_of_get hbI)]; exact hbI
          have hX2 : w2.heap[w.heap.size]? = some (polObj gi xs.length c g ps.length cap) := by rw [hb2.block _ (lt_of_get hbX)]; exact hbX
          have hB2 : Below w.heap.size w w2 := hbN.trans (hb2.mono hbN.size)
          clear HN hbN hbX hbI hb2 q0 q1 c0 c1 c2 c3 c4 c5
          generalize letIx xs xs[j].name j = m at *
          go_wp2_with fail
          generalize hbi : wr.heap.size = bI at *
          clear hbi
          go_loopw [7, 8] (fun o k wk => ∃ (oo : Option Nat) (kk : Nat), fr ≤ kk ∧ kk ≤ ps.length ∧ o = placeV oo ∧ k = .int .i64 kk ∧ Hid (wrongAt xs (ps.map toPt) j (xs[j].parts - fr) fr none = wrongAt xs (ps.map toPt) j (xs[j].parts - kk) kk oo) ∧ Below w.heap.size w wk ∧ wk.heap[w.heap.size]? = some (polObj gi xs.length c g ps.length cap) ∧ wk.heap[bI]? = some (itmObj xs[j])) (fun _ k _ => xs[j].parts - (intOf k).toNat)
          case atStart => exact ⟨none, fr, Nat.le_refl _, hfr, rfl, rfl, rfl, hB2, hX2, hI2⟩
          case round =>
            obtain ⟨oo, kk, hfk, hkp, rfl, rfl, HW, hBk, hXk, hIk⟩ := hrel
            have q0 := cell_of_row wr w.heap.size 0 _ _ _ hXk
            have q1 := cell_of_row wr w.heap.size 1 _ _ _ hXk
            obtain ⟨⟨x0, x1, x2, x3, x4, x5⟩, xf⟩ := itm_cells hIk
            have hl1 := lt_of_get hXk
            have hl2 := lt_of_get hIk
            simp only [List.getElem?_toArray, List.getElem?_cons_zero, List.getElem?_cons_succ] at q0 q1
            by_cases hk : kk < xs[j].parts
            · have hkl : kk < ps.length := by omega
              have hpk := hp.below hBk
              obtain ⟨k0, k1, k2, k3, k4⟩ := hpk.cells kk hkl
              have lp := World.block_lt_of_cell? wr _ k0
              simp only at lp
              have HT : Hid _ := wrong_step xs (ps.map toPt) j xs[j].parts kk oo hk
              have hpt : ((ps.map toPt).getD kk noPt).tok = (ps.getD kk noPart).tok := by rw [toPt_at ps kk hkl]; rfl
              have HPT : Hid _ := hpt
              have b3 : (0 : Int) ≤ (kk : Int) := by omega
              have b4 : (kk : Int) < (ps.length : Int) := by omega
              have n1 : wr.heap.size ≠ w.heap.size := by omega
              have n2 : wr.heap.size ≠ bI := by omega
              have n3 : wr.heap.size ≠ g := by omega
              have hBn : Below w.heap.size w (wr.alloc (wordObj (ps.getD kk noPart).tok)) := hBk.alloc (by have := hBk.size; omega) _
              have hXn : (wr.alloc (wordObj (ps.getD kk noPart).tok)).heap[w.heap.size]? = some (polObj gi xs.length c g ps.length cap) := by rw [Below.heap_alloc _ _ _ hl1]; exact hXk
              have hIn : (wr.alloc (wordObj (ps.getD kk noPart).tok)).heap[bI]? = some (itmObj xs[j]) := by rw [Below.heap_alloc _ _ _ hl2]; exact hIk
              have hWn : (wr.alloc (wordObj (ps.getD kk noPart).tok)).heap[wr.heap.size]? = some (wordObj (ps.getD kk noPart).tok) := heap_alloc_new wr _
              have HN : Hid _ := And.intro hBn (And.intro hXn (And.intro hIn hWn))
              clear hpt hpk k3 k4 hBk hXk hIk hBn hXn hIn hWn
              generalize (ps.getD kk noPart).tok = t at *
              by_cases ht : t.k = 111
              · have ht1 : ((t.k : Int) != 111) = false := by simp; omega
                have HT1 : Hid _ := ht
                clear ht
                go_wp2_with fail
                obtain ⟨hBn, hXn, hIn, hWn⟩ := HN.out
                have hge := letIx_ge xs t.text j
                refine (let_any (h.below hBn) _ _ _ t.text j hj).mono ?_
                rintro e w4 ⟨rfl, hb4⟩
                have hX4 : w4.heap[w.heap.size]? = some (polObj gi xs.length c g ps.length cap) := by rw [hb4.block _ (lt_of_get hXn)]; exact hXn
                have hI4 : w4.heap[bI]? = some (itmObj xs[j]) := by rw [hb4.block _ (lt_of_get hIn)]; exact hIn
                have hW4 : w4.heap[wr.heap.size]? = some (wordObj t) := by rw [hb4.block _ (lt_of_get hWn)]; exact hWn
                have hB4 : Below w.heap.size w w4 := hBn.trans (hb4.mono hBn.size)
                have r2 := cell_of_row w4 wr.heap.size 2 _ _ _ hW4
                simp only [List.getElem?_toArray, List.getElem?_cons_zero, List.getElem?_cons_succ] at r2
                have HZ : Hid (wrongStep xs j t oo = if letIx xs t.text j < 0 then better t.pl oo else oo) := by
                  show _ = _; unfold wrongStep
                  by_cases hl : letIx xs t.text j < 0
                  · rw [if_pos ⟨HT1.out, hl⟩, if_pos hl]
                  · rw [if_neg (fun e => hl e.2), if_neg hl]
                clear HN hBn hXn hIn hWn hb4 q0 q1 x0 x1 x2 x3 x4 x5 xf k0 k1 k2
                generalize letIx xs t.text j = m at *
                by_cases hm : m < 0
                · have HZ' : Hid (wrongStep xs j t oo = better t.pl oo) := by show _ = _; rw [HZ.out, if_pos hm]
                  clear HZ
                  cases oo with
                  | none =>
                    unfold placeV
                    go_wp2_with fail
                    go_roundw
                    case rel => exact ⟨some t.pl, kk + 1, by omega, by omega, rfl, by go_num, (by show _ = _; rw [HW.out, HT.out, HPT.out, HZ'.out]; rfl), hB4, hX4, hI4⟩
                    case measure => simp [intOf]; omega
                  | some p =>
                    by_cases hpl : t.pl < p
                    · have hE : Hid (better t.pl (some p) = some t.pl) := if_pos hpl
                      unfold placeV
                      go_wp2_with fail
                      go_roundw
                      case rel => exact ⟨some t.pl, kk + 1, by omega, by omega, rfl, by go_num, (by show _ = _; rw [HW.out, HT.out, HPT.out, HZ'.out, hE.out]), hB4, hX4, hI4⟩
                      case measure => simp [intOf]; omega
                    · have hE : Hid (better t.pl (some p) = some p) := if_neg hpl
                      unfold placeV
                      go_wp2_with fail
                      go_roundw
                      case rel => exact ⟨some p, kk + 1, by omega, by omega, rfl, by go_num, (by show _ = _; rw [HW.out, HT.out, HPT.out, HZ'.out, hE.out]), hB4, hX4, hI4⟩
                      case measure => simp [intOf]; omega
                · have HZ' : Hid (wrongStep xs j t oo = oo) := by show _ = _; rw [HZ.out, if_neg hm]
                  clear HZ
                  cases oo with
                  | none =>
                    unfold placeV
                    go_wp2_with fail
                    go_roundw
                    case rel => exact ⟨none, kk + 1, by omega, by omega, rfl, by go_num, (by show _ = _; rw [HW.out, HT.out, HPT.out, HZ'.out]), hB4, hX4, hI4⟩
                    case measure => simp [intOf]; omega
                  | some p =>
                    unfold placeV
                    go_wp2_with fail
                    go_roundw
                    case rel => exact ⟨some p, kk + 1, by omega, by omega, rfl, by go_num, (by show _ = _; rw [HW.out, HT.out, HPT.out, HZ'.out]), hB4, hX4, hI4⟩
                    case measure => simp [intOf]; omega
              · have ht1 : ((t.k : Int) != 111) = true := by simp; omega
                have HZ : Hid (wrongStep xs j t oo = oo) := by show _ = _; unfold wrongStep; rw [if_neg (fun e => ht e.1)]
                clear ht
                go_wp2_with fail
                go_roundw
                case rel =>
                  obtain ⟨hBn, hXn, hIn, hWn⟩ := HN.out
                  exact ⟨oo, kk + 1, by omega, by omega, rfl, by go_num, (by show _ = _; rw [HW.out, HT.out, HPT.out, HZ.out]), hBn, hXn, hIn⟩
                case measure => simp [intOf]; omega
            · have HE : Hid (wrongAt xs (ps.map toPt) j (xs[j].parts - fr) fr none = oo) := by
                show _ = _; rw [HW.out, show xs[j].parts - kk = 0 from by omega]; rfl
              cases oo with
              | none =>
                unfold placeV
                go_wp2_with fail
                go_roundw
                case rel => exact ⟨xs[j].parts, j + 1, by omega, by omega, rfl, by go_num, (by show _ = _; rw [HM.out, HQ.out, HE.out]; rfl), hBk, hXk⟩
                case measure => simp [intOf]; omega
              | some p =>
                unfold placeV
                go_wp2_with fail
                go_ret
                exact ⟨by rw [HM.out, HQ.out, HE.out]; rfl, hBk⟩
      · go_wp2_with fail
        go_ret
        refine ⟨?_, hbw⟩
        rw [HM.out, List.drop_of_length_le (by omega)]; rfl
end Go.Proofs.YtfkdailfcmnjlaaGreatDoor

namespace Go.Proofs.YtfkdailfcmnjlaaGreatDoor
open Go Go.RowKit
set_option maxRecDepth 100000

set_option maxHeartbeats 4000000 in
theorem typeOfSign_any (x s : List UInt8) (w : World) (h2 : x = [61] → 2 ≤ s.length) (h3 : x = [105, 102] → 3 ≤ s.length) :
    Calls Tryz.prog 161 #[S x, S s] w fun e w' => e = .returned (.int .u8 (tySign x s)) ∧ ∃ n, w' = w.drewN n := by
  by_cases hx : x = [43]
  · subst hx
    by_cases hs : s = [110, 110]
    · have hs' : (s == [110, 110]) = true := by simp [hs]
      have HE : Hid (tySign [43] s = 110) := by show _ = _; rw [hs]; decide
      clear hs
      go_enter Tryz.func161, Tryz.ntmps161
      go_wp2_with fail
      go_ret
      exact ⟨ret_int (by rw [HE.out]; rfl), 0, rfl⟩
    · have hs' : (s == [110, 110]) = false := by simp [hs]
      have HE : Hid (tySign [43] s = 0) := by show _ = _; simp [tySign, hs]
      clear hs
      go_enter Tryz.func161, Tryz.ntmps161
      go_wp2_with fail
      go_ret
      exact ⟨ret_int (by rw [HE.out]; rfl), 0, rfl⟩
  by_cases hx : x = [45]
  · subst hx
    by_cases hs : s = [110, 110]
    · have hs' : (s == [110, 110]) = true := by simp [hs]
      have HE : Hid (tySign [45] s = 110) := by show _ = _; rw [hs]; decide
      clear hs
      go_enter Tryz.func161, Tryz.ntmps161
      go_wp2_with fail
      go_ret
      exact ⟨ret_int (by rw [HE.out]; rfl), 0, rfl⟩
    · have hs' : (s == [110, 110]) = false := by simp [hs]
      have HE : Hid (tySign [45] s = 0) := by show _ = _; simp [tySign, hs]
      clear hs
      go_enter Tryz.func161, Tryz.ntmps161
      go_wp2_with fail
      go_ret
      exact ⟨ret_int (by rw [HE.out]; rfl), 0, rfl⟩
  by_cases hx : x = [60]
  · subst hx
    by_cases hs : s = [110, 110]
    · have hs' : (s == [110, 110]) = true := by simp [hs]
      have HE : Hid (tySign [60] s = 116) := by show _ = _; rw [hs]; decide
      clear hs
      go_enter Tryz.func161, Tryz.ntmps161
      go_wp2_with fail
      go_ret
      exact ⟨ret_int (by rw [HE.out]; rfl), 0, rfl⟩
    · have hs' : (s == [110, 110]) = false := by simp [hs]
      have HE : Hid (tySign [60] s = 0) := by show _ = _; simp [tySign, hs]
      clear hs
      go_enter Tryz.func161, Tryz.ntmps161
      go_wp2_with fail
      go_ret
      exact ⟨ret_int (by rw [HE.out]; rfl), 0, rfl⟩
  by_cases hx : x = [60, 61]
  · subst hx
    by_cases hs : s = [110, 110]
    · have hs' : (s == [110, 110]) = true := by simp [hs]
      have HE : Hid (tySign [60, 61] s = 116) := by show _ = _; rw [hs]; decide
      clear hs
      go_enter Tryz.func161, Tryz.ntmps161
      go_wp2_with fail
      go_ret
      exact ⟨ret_int (by rw [HE.out]; rfl), 0, rfl⟩
    · have hs' : (s == [110, 110]) = false := by simp [hs]
      have HE : Hid (tySign [60, 61] s = 0) := by show _ = _; simp [tySign, hs]
      clear hs
      go_enter Tryz.func161, Tryz.ntmps161
      go_wp2_with fail
      go_ret
      exact ⟨ret_int (by rw [HE.out]; rfl), 0, rfl⟩
  by_cases hx : x = [111, 114]
  · subst hx
    by_cases hs : s = [116, 116]
    · have hs' : (s == [116, 116]) = true := by simp [hs]
      have HE : Hid (tySign [111, 114] s = 116) := by show _ = _; rw [hs]; decide
      clear hs
      go_enter Tryz.func161, Tryz.ntmps161
      go_wp2_with fail
      go_ret
      exact ⟨ret_int (by rw [HE.out]; rfl), 0, rfl⟩
    · have hs' : (s == [116, 116]) = false := by simp [hs]
      have HE : Hid (tySign [111, 114] s = 0) := by show _ = _; simp [tySign, hs]
      clear hs
      go_enter Tryz.func161, Tryz.ntmps161
      go_wp2_with fail
      go_ret
      exact ⟨ret_int (by rw [HE.out]; rfl), 0, rfl⟩
  by_cases hx : x = [97, 110, 100]
  · subst hx
    by_cases hs : s = [116, 116]
    · have hs' : (s == [116, 116]) = true := by simp [hs]
      have HE : Hid (tySign [97, 110, 100] s = 116) := by show _ = _; rw [hs]; decide
      clear hs
      go_enter Tryz.func161, Tryz.ntmps161
      go_wp2_with fail
      go_ret
      exact ⟨ret_int (by rw [HE.out]; rfl), 0, rfl⟩
    · have hs' : (s == [116, 116]) = false := by simp [hs]
      have HE : Hid (tySign [97, 110, 100] s = 0) := by show _ = _; simp [tySign, hs]
      clear hs
      go_enter Tryz.func161, Tryz.ntmps161
      go_wp2_with fail
      go_ret
      exact ⟨ret_int (by rw [HE.out]; rfl), 0, rfl⟩
  by_cases hx : x = [110, 111, 116]
  · subst hx
    by_cases hs : s = [116]
    · have hs' : (s == [116]) = true := by simp [hs]
      have HE : Hid (tySign [110, 111, 116] s = 116) := by show _ = _; rw [hs]; decide
      clear hs
      go_enter Tryz.func161, Tryz.ntmps161
      go_wp2_with fail
      go_ret
      exact ⟨ret_int (by rw [HE.out]; rfl), 0, rfl⟩
    · have hs' : (s == [116]) = false := by simp [hs]
      have HE : Hid (tySign [110, 111, 116] s = 0) := by show _ = _; simp [tySign, hs]
      clear hs
      go_enter Tryz.func161, Tryz.ntmps161
      go_wp2_with fail
      go_ret
      exact ⟨ret_int (by rw [HE.out]; rfl), 0, rfl⟩
  by_cases hx1 : x = [61]
  · have hl := h2 hx1
    subst hx1
    have l0 : 0 < s.length := by omega
    have l1 : 1 < s.length := by omega
    have HE : Hid (tySign [61] s = if (((ByteArray.mk s.toArray)[0]'l0).toNat : Int) = (((ByteArray.mk s.toArray)[1]'l1).toNat : Int) then 116 else 0) := by
      have e0 : (s.getD 0 0).toNat = ((ByteArray.mk s.toArray)[0]'l0).toNat := by rw [List.getD_eq_getElem?_getD, List.getElem?_eq_getElem l0]; rfl
      have e1 : (s.getD 1 0).toNat = ((ByteArray.mk s.toArray)[1]'l1).toNat := by rw [List.getD_eq_getElem?_getD, List.getElem?_eq_getElem l1]; rfl
      show tySign [61] s = _
      have : tySign [61] s = if (s.getD 0 0).toNat = (s.getD 1 0).toNat then 116 else 0 := rfl
      rw [this, e0, e1]
      simp only [Int.natCast_inj]
    clear h2 h3
    by_cases h1 : (((ByteArray.mk s.toArray)[0]'l0).toNat : Int) = (((ByteArray.mk s.toArray)[1]'l1).toNat : Int)
    · have h1' : ((((ByteArray.mk s.toArray)[0]'l0).toNat : Int) == (((ByteArray.mk s.toArray)[1]'l1).toNat : Int)) = true := by simp [h1]
      have HF : Hid (tySign [61] s = 116) := by show _ = _; rw [HE.out, if_pos h1]
      clear h1 HE
      go_enter Tryz.func161, Tryz.ntmps161
      go_wp2_with fail
      go_region_held3 (fun _ => True) (trivial) (fail)
      all_goals
        go_wp2
        go_ret
        refine ⟨ret_int ?_, 1, rfl⟩
        rw [HF.out]; rfl
    · have h1' : ((((ByteArray.mk s.toArray)[0]'l0).toNat : Int) == (((ByteArray.mk s.toArray)[1]'l1).toNat : Int)) = false := by simp [h1]
      have HF : Hid (tySign [61] s = 0) := by show _ = _; rw [HE.out, if_neg h1]
      clear h1 HE
      go_enter Tryz.func161, Tryz.ntmps161
      go_wp2_with fail
      go_region_held3 (fun _ => True) (trivial) (fail)
      all_goals
        go_wp2
        go_ret
        refine ⟨ret_int ?_, 1, rfl⟩
        rw [HF.out]; rfl
  by_cases hx2 : x = [105, 102]
  · have hl := h3 hx2
    subst hx2
    have l0 : 0 < s.length := by omega
    have l1 : 1 < s.length := by omega
    have l2 : 2 < s.length := by omega
    have HE : Hid (tySign [105, 102] s = if (((ByteArray.mk s.toArray)[0]'l0).toNat : Int) = 116 ∧ (((ByteArray.mk s.toArray)[1]'l1).toNat : Int) = (((ByteArray.mk s.toArray)[2]'l2).toNat : Int) then ((ByteArray.mk s.toArray)[1]'l1).toNat else 0) := by
      have e0 : (s.getD 0 0).toNat = ((ByteArray.mk s.toArray)[0]'l0).toNat := by rw [List.getD_eq_getElem?_getD, List.getElem?_eq_getElem l0]; rfl
      have e1 : (s.getD 1 0).toNat = ((ByteArray.mk s.toArray)[1]'l1).toNat := by rw [List.getD_eq_getElem?_getD, List.getElem?_eq_getElem l1]; rfl
      have e2 : (s.getD 2 0).toNat = ((ByteArray.mk s.toArray)[2]'l2).toNat := by rw [List.getD_eq_getElem?_getD, List.getElem?_eq_getElem l2]; rfl
      show tySign [105, 102] s = _
      have : tySign [105, 102] s = if (s.getD 0 0).toNat = 116 ∧ (s.getD 1 0).toNat = (s.getD 2 0).toNat then (s.getD 1 0).toNat else 0 := rfl
      rw [this, e0, e1, e2]
      by_cases hq : ((ByteArray.mk s.toArray)[0]'l0).toNat = 116 ∧ ((ByteArray.mk s.toArray)[1]'l1).toNat = ((ByteArray.mk s.toArray)[2]'l2).toNat
      · rw [if_pos hq, if_pos (by omega)]
      · rw [if_neg hq, if_neg (by omega)]
    clear h2 h3
    by_cases h0 : (((ByteArray.mk s.toArray)[0]'l0).toNat : Int) = 116
    · have h0' : ((((ByteArray.mk s.toArray)[0]'l0).toNat : Int) == 116) = true := by simp [h0]
      by_cases h1 : (((ByteArray.mk s.toArray)[1]'l1).toNat : Int) = (((ByteArray.mk s.toArray)[2]'l2).toNat : Int)
      · have h1' : ((((ByteArray.mk s.toArray)[1]'l1).toNat : Int) == (((ByteArray.mk s.toArray)[2]'l2).toNat : Int)) = true := by simp [h1]
        have HF : Hid (tySign [105, 102] s = ((ByteArray.mk s.toArray)[1]'l1).toNat) := by show _ = _; rw [HE.out, if_pos ⟨h0, h1⟩]
        clear h0 h1 HE
        go_enter Tryz.func161, Tryz.ntmps161
        go_wp2_with fail
        go_region_held3 (fun _ => True) (trivial) (fail)
        all_goals
          go_wp2
          go_ret
          refine ⟨ret_int ?_, 1, rfl⟩
          rw [HF.out]
      · have h1' : ((((ByteArray.mk s.toArray)[1]'l1).toNat : Int) == (((ByteArray.mk s.toArray)[2]'l2).toNat : Int)) = false := by simp [h1]
        have HF : Hid (tySign [105, 102] s = 0) := by show _ = _; rw [HE.out, if_neg (fun e => h1 e.2)]
        clear h0 h1 HE
        go_enter Tryz.func161, Tryz.ntmps161
        go_wp2_with fail
        go_region_held3 (fun _ => True) (trivial) (fail)
        all_goals
          go_wp2
          go_ret
          refine ⟨ret_int ?_, 1, rfl⟩
          rw [HF.out]; rfl
    · have h0' : ((((ByteArray.mk s.toArray)[0]'l0).toNat : Int) == 116) = false := by simp [h0]
      have HF : Hid (tySign [105, 102] s = 0) := by show _ = _; rw [HE.out, if_neg (fun e => h0 e.1)]
      clear h0 HE
      go_enter Tryz.func161, Tryz.ntmps161
      go_wp2_with fail
      go_region
      all_goals
        go_wp2
        go_ret
        refine ⟨ret_int ?_, 1, rfl⟩
        rw [HF.out]; rfl
  · have HF : Hid (tySign x s = 0) := by show _ = _; simp [tySign, *]
    have t1 : (x == ([43] : List UInt8)) = false := by simp [*]
    have t2 : (x == ([45] : List UInt8)) = false := by simp [*]
    have t3 : (x == ([60] : List UInt8)) = false := by simp [*]
    have t4 : (x == ([60, 61] : List UInt8)) = false := by simp [*]
    have t5 : (x == ([61] : List UInt8)) = false := by simp [*]
    have t6 : (x == ([111, 114] : List UInt8)) = false := by simp [*]
    have t7 : (x == ([97, 110, 100] : List UInt8)) = false := by simp [*]
    have t8 : (x == ([110, 111, 116] : List UInt8)) = false := by simp [*]
    have t9 : (x == ([105, 102] : List UInt8)) = false := by simp [*]
    clear h2 h3 hx1 hx2
    go_enter Tryz.func161, Tryz.ntmps161
    go_wp2_with fail
    go_ret
    exact ⟨ret_int (by rw [HF.out]; rfl), 0, rfl⟩
end Go.Proofs.YtfkdailfcmnjlaaGreatDoor

namespace Go.Proofs.YtfkdailfcmnjlaaGreatDoor
open Go Go.RowKit
set_option maxRecDepth 100000
attribute [local go_sem ↓] Go.wp_at_zero Go.wp_at_succ

theorem info_byte : (Tryz.prog.info? 5).map (fun i => (i.zero, i.size, i.bytes)) = some (some (.int .u8 0), 1, 1) := by kernel_rfl

def byteCells (l : List UInt8) : List Value := l.map fun c => Value.int .u8 (c.toNat : Int)
theorem byteCells_len (l : List UInt8) : (byteCells l).length = l.length := by simp [byteCells]
theorem byteCells_snoc (l : List UInt8) (c : UInt8) : byteCells (l ++ [c]) = byteCells l ++ [.int .u8 c.toNat] := by simp [byteCells]

/-- The policy lies in memory, and the types of the items so far. -/
structure PolIn (B gi c g cap : Nat) (xs : List Itm) (ps : List PartS) (bv : Value) (its : List UInt8) (w : World) : Prop where
  items : ItemsIn B (.slice (some ⟨gi, 0, none⟩) xs.length c) xs w
  parts : PartsIn B g cap ps w
  bytes : w.ownsRow B 5 1 bv its.length (byteCells its)
  len : its.length ≤ xs.length
theorem PolIn.below {B gi c g cap : Nat} {xs : List Itm} {ps : List PartS} {bv : Value} {its : List UInt8} {w w' : World} (h : PolIn B gi c g cap xs ps bv its w) (hb : Below w.heap.size w w') : PolIn B gi c g cap xs ps bv its w' :=
  ⟨h.items.below hb, h.parts.below hb, ownsRow_below h.bytes hb, h.len⟩

/-- Parts whose types can be asked. -/
structure Fine (xs : List Itm) (n : Nat) (L : List Pt) (Good : Nat → Prop) : Prop where
  down : ∀ k, Good k → ∀ j ∈ (L.getD k noPt).subs, Good j
  own : ∀ k, Good k → (L.getD k noPt).tok.k = 111 → 0 ≤ letIx xs (L.getD k noPt).tok.text n
  two : ∀ k, Good k → (L.getD k noPt).tok.k ≠ 110 → (L.getD k noPt).tok.k ≠ 111 → (L.getD k noPt).tok.text = [61] → 2 ≤ (L.getD k noPt).subs.length
  three : ∀ k, Good k → (L.getD k noPt).tok.k ≠ 110 → (L.getD k noPt).tok.k ≠ 111 → (L.getD k noPt).tok.text = [105, 102] → 3 ≤ (L.getD k noPt).subs.length

abbrev partObj (p : PartS) : Obj := .cells #[.int .u8 p.tok.k, S p.tok.text, .int .i64 p.tok.pl, p.sv, .int .i64 p.n] 169

theorem tyOf_zero (xs : List Itm) (its : List UInt8) (L : List Pt) (f k j : Nat) (hj : j < (L.getD k noPt).subs.length) (h : tyOf xs its L f ((L.getD k noPt).subs[j]) = 0) : tyOf xs its L (f + 1) k = 0 := by
  rw [tyOf, if_pos]
  rw [List.contains_iff_mem]
  exact List.mem_map.2 ⟨_, List.getElem_mem hj, h⟩
theorem tyOf_case (xs : List Itm) (its : List UInt8) (L : List Pt) (f k : Nat) (h : ∀ j ∈ (L.getD k noPt).subs, tyOf xs its L f j ≠ 0) : (tyOf xs its L (f + 1) k).toNat = tyCase xs its (L.getD k noPt).tok ((L.getD k noPt).subs.map (tyOf xs its L f)) := by
  rw [tyOf, if_neg]
  · rw [UInt8.toNat_ofNat_of_lt' (tyCase_lt _ _ _ _)]
  · rw [List.contains_iff_mem]
    intro hm
    obtain ⟨j, hj, e⟩ := List.mem_map.1 hm
    exact h j hj e

theorem conv_row {base n : Nat} {tv : Value} {l : List UInt8} {w : World} (h : w.ownsRow base 5 1 tv n (byteCells l)) : (convert 155 9 tv).run Tryz.prog w = .ok (S l) w := by
  have hn : n = l.length := by have := h.1; rw [byteCells_len] at this; omega
  subst hn
  rcases h.2 with ⟨rfl, h0⟩ | ⟨g, cap, cur, rfl, _⟩
  · have : l = [] := List.length_eq_zero_iff.1 h0
    subst this
    rw [run_convert_bytes_string w 155 9 5 none 0 0 Tryz.underlying155 Tryz.underlying5 Tryz.underlying9]
    rfl
  · refine run_convert_bytes_back w 155 9 5 ⟨g, 0, none⟩ cap l Tryz.underlying155 Tryz.underlying5 Tryz.underlying9 fun j hj => ?_
    exact h.cells (g := g) rfl j _ (by simp [byteCells, hj])
theorem bytes_at {base : Nat} {va : Option Addr} {vc : Nat} {its : List UInt8} {w : World} (h : w.ownsRow base 5 1 (.slice va its.length vc) its.length (byteCells its)) (l : Nat) (hl : l < its.length) :
    ∃ g, va = some ⟨g, 0, none⟩ ∧ w.cell? ⟨g, l, none⟩ = some (.int .u8 (its.getD l 0).toNat) := by
  rcases h.2 with ⟨_, h0⟩ | ⟨g, cap, cur, e, _⟩
  · omega
  · cases e
    refine ⟨g, rfl, ?_⟩
    have ha : (⟨g, 0, none⟩ : Addr).add l = ⟨g, l, none⟩ := by unfold Addr.add; split <;> simp_all
    rw [← ha]
    exact h.cells (g := g) rfl l _ (by simp [byteCells, hl])
theorem idx_lt (l : List (List UInt8)) (s : List UInt8) : idx l s < l.length := by
  induction l with
  | nil => simp [idx]
  | cons x r ih => unfold idx; simp only [List.length_cons]; split; omega; split <;> omega

set_option maxHeartbeats 8000000 in
theorem typeOf_step {B gi c g cap : Nat} {xs : List Itm} {ps : List PartS} {bv : Value} {its : List UInt8} {Good : Nat → Prop} (hA : Ahead (ps.map toPt)) (hG : Fine xs its.length (ps.map toPt) Good) (f : Nat) (hf2 : f ≤ 2000)
    (ih : ∀ (k : Nat) (w : World), PolIn B gi c g cap xs ps bv its w → k < f → k < ps.length → Good k →
      Calls Tryz.prog 117 #[.agg #[.slice (some ⟨gi, 0, none⟩) xs.length c, .slice (some ⟨g, 0, none⟩) ps.length cap], .int .i64 k, bv] w fun e w' => e = .returned (.int .u8 (tyOf xs its (ps.map toPt) f k).toNat) ∧ Below w.heap.size w w')
    (k : Nat) (w : World) (h : PolIn B gi c g cap xs ps bv its w) (hkf : k < f + 1) (hk : k < ps.length) (hgk : Good k) :
      Calls Tryz.prog 117 #[.agg #[.slice (some ⟨gi, 0, none⟩) xs.length c, .slice (some ⟨g, 0, none⟩) ps.length cap], .int .i64 k, bv] w fun e w' => e = .returned (.int .u8 (tyOf xs its (ps.map toPt) (f + 1) k).toNat) ∧ Below w.heap.size w w' := by
  obtain ⟨i0, hi, hz0, hz1, hz2⟩ := info_parts info_byte
  obtain ⟨k0, k1, k2, k3, k4⟩ := h.parts.cells k hk
  have hpf := h.parts.few
  have hone : (ps.getD k noPart).sv.oneCell' = true := by
    have hm : ps.getD k noPart ∈ ps := by rw [List.getD_eq_getElem?_getD, List.getElem?_eq_getElem hk]; exact List.getElem_mem hk
    exact (h.parts.subs _ hm).one
  have b1 : (0 : Int) ≤ (k : Int) := by omega
  have b2 : (k : Int) < (ps.length : Int) := by omega
  have lg := World.block_lt_of_cell? w _ k0
  simp only at lg
  have IH : Hid _ := ih
  clear ih
  have hpt : (ps.map toPt).getD k noPt = toPt (ps.getD k noPart) := toPt_at ps k hk
  have hsub := h.parts.sub k hk
  have hahd := hA k (by simpa using hk)
  have hdown := hG.down k hgk
  have hown := hG.own k hgk
  have htwo := hG.two k hgk
  have hthree := hG.three k hgk
  have hcase := tyOf_case xs its (ps.map toPt) f k
  have hzero := tyOf_zero xs its (ps.map toPt) f k
  rw [hpt] at hahd hdown hown htwo hthree hcase
  simp only [hpt] at hzero
  generalize ps.getD k noPart = pp at *
  have HAH : Hid (pp.subs.length ≤ 3 ∧ ∀ j ∈ pp.subs, j < k) := hahd
  have HGD : Hid (∀ j ∈ pp.subs, Good j) := hdown
  have HOW : Hid (pp.tok.k = 111 → 0 ≤ letIx xs pp.tok.text its.length) := hown
  have HTW : Hid (pp.tok.k ≠ 110 → pp.tok.k ≠ 111 → pp.tok.text = [61] → 2 ≤ pp.subs.length) := htwo
  have HTH : Hid (pp.tok.k ≠ 110 → pp.tok.k ≠ 111 → pp.tok.text = [105, 102] → 3 ≤ pp.subs.length) := hthree
  have HCA : Hid ((∀ j ∈ pp.subs, tyOf xs its (ps.map toPt) f j ≠ 0) → (tyOf xs its (ps.map toPt) (f + 1) k).toNat = tyCase xs its pp.tok (pp.subs.map (tyOf xs its (ps.map toPt) f))) := hcase
  have HZR : Hid (∀ j (hj : j < pp.subs.length), tyOf xs its (ps.map toPt) f pp.subs[j] = 0 → tyOf xs its (ps.map toPt) (f + 1) k = 0) := hzero
  clear hpt hahd hdown hown htwo hthree hcase hzero
  have hz1' := hz1
  obtain ⟨va, vc, rfl⟩ : ∃ a c, bv = .slice a its.length c := by
    rcases h.bytes.2 with ⟨e, hn⟩ | ⟨gg, cc, cur, e, _⟩
    · exact ⟨none, 0, by rw [hn]; exact e⟩
    · exact ⟨_, _, e⟩
  have hB0 : Below w.heap.size w ((w.alloc (polObj gi xs.length c g ps.length cap)).alloc (partObj pp)) := ((Below.refl _ _).alloc (Nat.le_refl _) _).alloc (by simp) _
  have hX0 : ((w.alloc (polObj gi xs.length c g ps.length cap)).alloc (partObj pp)).heap[w.heap.size]? = some (polObj gi xs.length c g ps.length cap) := by rw [Below.heap_alloc _ _ _ (by simp)]; exact heap_alloc_new w _
  have hP0 : ((w.alloc (polObj gi xs.length c g ps.length cap)).alloc (partObj pp)).heap[w.heap.size + 1]? = some (partObj pp) := by have e := heap_alloc_new (w.alloc (polObj gi xs.length c g ps.length cap)) (partObj pp); rw [World.size_alloc] at e; exact e
  have HH0 : Hid _ := And.intro hB0 (And.intro hX0 hP0)
  clear hB0 hX0 hP0
  rcases hsub with ⟨e1, e2⟩ | ⟨sb, e2, hcs⟩
  · have HSV : Hid _ := e2
    have HE1 : Hid _ := e1
    generalize pp.subs = sl at *
    rw [e2] at k3
    clear e1 e2
    go_enter Tryz.func117, Tryz.ntmps117
    go_wp2_with fail
    · rw [← HSV.out]
      obtain ⟨hBw, hXw, hPw⟩ := HH0.out
      clear HH0 k0 k1 k2 k3 k4
      generalize ((w.alloc (polObj gi xs.length c g ps.length cap)).alloc (partObj pp)) = wr at *
      have p0 := cell_of_row wr (w.heap.size + 1) 0 _ _ _ hPw
      have p1 := cell_of_row wr (w.heap.size + 1) 1 _ _ _ hPw
      have p3 := cell_of_row wr (w.heap.size + 1) 3 _ _ _ hPw
      simp only [List.getElem?_toArray, List.getElem?_cons_zero, List.getElem?_cons_succ] at p0 p1 p3
      rw [HSV.out] at p3
      have HTY : Hid ((tyOf xs its (ps.map toPt) (f + 1) k).toNat = tyCase xs its pp.tok (sl.map (tyOf xs its (ps.map toPt) f))) := HCA.out fun j hj => by rw [HE1.out] at hj; simp at hj
      have HCV : Hid (∀ w', Below wr.heap.size wr w' → (convert 155 9 (.slice none 0 0)).run Tryz.prog w' = .ok (S (sl.map (tyOf xs its (ps.map toPt) f))) w') := fun w' _ => by rw [HE1.out]; exact conv_row (World.ownsRow_nil w' 0 _ _)
      go_loop [8, 9] (fun tv j => tv = .slice none 0 0 ∧ j = .int .i64 0) (fun _ _ => 0)
      case atStart => exact ⟨HSV.out, rfl⟩
      case round =>
        obtain ⟨rfl, rfl⟩ := hrel
        have hcs : True := trivial
        go_wp2_with fail
        clear hcs
        have lX := lt_of_get hXw
        have lP := lt_of_get hPw
        have hBs := hBw.size
        go_region_held3 (fun w' => w'.cell? ⟨w.heap.size + 1, 1, none⟩ = some (S pp.tok.text))
          (first | go_keep | (rw [hb1.cell (p := ⟨w.heap.size + 1, 1, none⟩) (by simp <;> omega)]; first | assumption | (simp [*]; done)))
          (first
            | (go_at_call 89; refine (members_any _).mono ?_; rintro e w1 ⟨x1, rfl, hc1, hb1, hl1, hs1⟩)
            | (go_at_call 87; refine (index_any kMembers _ x1 _ (by decide) hc1).mono ?_; rintro e w1 ⟨rfl, rfl⟩))
        rename_i hHeld
        clear hHeld
        have hb2 : Below wr.heap.size wr w1 := (Below.refl _ _).drew.trans hb1
        have hs2 := hb2.size
        have hX1 : w1.heap[w.heap.size]? = some (polObj gi xs.length c g ps.length cap) := by rw [hb2.block _ lX]; exact hXw
        have hP1 : w1.heap[w.heap.size + 1]? = some (partObj pp) := by rw [hb2.block _ lP]; exact hPw
        have p1 := cell_of_row w1 (w.heap.size + 1) 1 _ _ _ hP1
        simp only [List.getElem?_toArray, List.getElem?_cons_zero, List.getElem?_cons_succ] at p1
        clear hb1 hc1 hl1 hs1
        go_wp2_with fail
        go_region_held3 (fun w' => w'.cell? ⟨w.heap.size + 1, 1, none⟩ = some (S pp.tok.text))
          (first | go_keep | (rw [hb4.cell (p := ⟨w.heap.size + 1, 1, none⟩) (by simp <;> omega)]; first | assumption | (simp [*]; done)))
          (first
            | (go_at_call 88; refine (fields_any _).mono ?_; rintro e w5 ⟨x5, rfl, hc5, hb4, hl5, hs5⟩)
            | (go_at_call 87; refine (index_any kFields _ x5 _ (by decide) hc5).mono ?_; rintro e w5 ⟨rfl, rfl⟩))
        rename_i hHeld
        clear hHeld
        have hb6 : Below w1.heap.size w1 w5 := (Below.refl _ _).drew.trans hb4
        have hb7 : Below wr.heap.size wr w5 := hb2.trans (hb6.mono hs2)
        have hB5 : Below w.heap.size w w5 := hBw.trans (hb7.mono hBw.size)
        have hX5 : w5.heap[w.heap.size]? = some (polObj gi xs.length c g ps.length cap) := by rw [hb7.block _ lX]; exact hXw
        have hP5 : w5.heap[w.heap.size + 1]? = some (partObj pp) := by rw [hb7.block _ lP]; exact hPw
        have q0 := cell_of_row w5 w.heap.size 0 _ _ _ hX5
        have q1 := cell_of_row w5 w.heap.size 1 _ _ _ hX5
        have p0 := cell_of_row w5 (w.heap.size + 1) 0 _ _ _ hP5
        have p1 := cell_of_row w5 (w.heap.size + 1) 1 _ _ _ hP5
        have hcv := HCV.out w5 hb7
        have hs5' := hB5.size
        simp only [List.getElem?_toArray, List.getElem?_cons_zero, List.getElem?_cons_succ] at q0 q1 p0 p1
        have i1 := idx_ge kMembers pp.tok.text
        have i2 := idx_ge kFields pp.tok.text
        have i3 := idx_lt kFields pp.tok.text
        clear hb4 hc5 hl5 hs5 hb6 hb2 hb7 hX1 hP1 hXw hPw hBw lX lP hs2 hX5 hP5
        have hTC := HTY.out
        unfold tyCase at hTC
        generalize hM : idx kMembers pp.tok.text = m at *
        generalize hF : idx kFields pp.tok.text = n at *
        have HTC : Hid _ := hTC
        clear hTC hM hF
        by_cases hk1 : pp.tok.k = 110
        · have hk1' : ((pp.tok.k : Int) == 110) = true := by simp; omega
          have HR : Hid _ := HTC.out
          have hres : Hid ((tyOf xs its (ps.map toPt) (f + 1) k).toNat = 110) := by show _ = _; rw [HTC.out, if_pos hk1]
          clear HTC HR hk1
          go_wp2_with fail
          go_ret
          exact ⟨ret_int (by rw [hres.out]; rfl), hB5⟩
        have hk1' : ((pp.tok.k : Int) == 110) = false := by simp; omega
        by_cases hk2 : pp.tok.k = 111
        · have hk2' : ((pp.tok.k : Int) == 111) = true := by simp; omega
          have hge := HOW.out hk2
          have hres : Hid ((tyOf xs its (ps.map toPt) (f + 1) k).toNat = (its.getD (letIx xs pp.tok.text its.length).toNat 0).toNat) := by show _ = _; rw [HTC.out, if_neg hk1, if_pos hk2]
          have hll := letIx_lt xs pp.tok.text its.length
          have hpol := h.below hB5
          clear HTC hk1 hk2
          go_wp2_with fail
          refine (let_any hpol.items _ _ _ pp.tok.text its.length h.len).mono ?_
          rintro e w6 ⟨rfl, hb8⟩
          have hpol6 := hpol.below hb8
          have hB6 : Below w.heap.size w w6 := hB5.trans (hb8.mono hB5.size)
          obtain ⟨gb, rfl, hcb⟩ := bytes_at hpol6.bytes (letIx xs pp.tok.text its.length).toNat (by omega)
          obtain ⟨l, hl⟩ : ∃ l : Nat, letIx xs pp.tok.text its.length = l := ⟨_, (Int.toNat_of_nonneg hge).symm⟩
          rw [hl] at hcb hres hge hll ⊢
          simp only [Int.toNat_natCast] at hcb hres
          have c1 : (l : Int) < (its.length : Int) := by omega
          clear hl q0 q1 p0 p1 hcv hpol hpol6 hb8
          go_wp2_with fail
          go_ret
          exact ⟨ret_int (by rw [hres.out, List.getD_eq_getElem?_getD]), hB6⟩
        have hk2' : ((pp.tok.k : Int) == 111) = false := by simp; omega
        by_cases hn : 0 ≤ n
        · have hres : Hid ((tyOf xs its (ps.map toPt) (f + 1) k).toNat = (([110, 110, 110, 110, 109, 109, 109, 116, 116] : List UInt8).getD n.toNat 0).toNat) := by show _ = _; rw [HTC.out, if_neg hk1, if_neg hk2, if_pos hn]
          obtain ⟨l, rfl⟩ : ∃ l : Nat, n = l := ⟨n.toNat, (Int.toNat_of_nonneg hn).symm⟩
          have hl9 : l < 9 := by have : (kFields.length : Int) = 9 := rfl; omega
          simp only [Int.toNat_natCast] at hres
          clear HTC hk1 hk2
          have c1 : (l : Int) < 9 := by omega
          go_wp2_with fail
          go_ret
          refine ⟨ret_int ?_, hB5⟩
          rw [hres.out]
          have e9 : l = 0 ∨ l = 1 ∨ l = 2 ∨ l = 3 ∨ l = 4 ∨ l = 5 ∨ l = 6 ∨ l = 7 ∨ l = 8 := by omega
          rcases e9 with rfl | rfl | rfl | rfl | rfl | rfl | rfl | rfl | rfl <;> rfl
        by_cases hm : 0 ≤ m
        · have hres : Hid ((tyOf xs its (ps.map toPt) (f + 1) k).toNat = 109) := by show _ = _; rw [HTC.out, if_neg hk1, if_neg hk2, if_neg hn, if_pos hm]
          have hn' : n < 0 := by omega
          clear HTC hk1 hk2 hn
          go_wp2_with fail
          go_ret
          exact ⟨ret_int (by rw [hres.out]; rfl), hB5⟩
        have hn' : n < 0 := by omega
        have hm' : m < 0 := by omega
        cases ht : (pp.tok.text == wTrue) with
        | true =>
          have ht' : (pp.tok.text == [116, 114, 117, 101]) = true := ht
          have hres : Hid ((tyOf xs its (ps.map toPt) (f + 1) k).toNat = 116) := by show _ = _; rw [HTC.out, if_neg hk1, if_neg hk2, if_neg hn, if_neg hm, if_pos (.inl (by simpa using ht))]
          clear HTC hk1 hk2 hn hm ht
          go_wp2_with fail
          go_ret
          exact ⟨ret_int (by rw [hres.out]; rfl), hB5⟩
        | false =>
          have ht' : (pp.tok.text == [116, 114, 117, 101]) = false := ht
          cases ht2 : (pp.tok.text == wFalse) with
          | true =>
            have ht3 : (pp.tok.text == [102, 97, 108, 115, 101]) = true := ht2
            have hres : Hid ((tyOf xs its (ps.map toPt) (f + 1) k).toNat = 116) := by show _ = _; rw [HTC.out, if_neg hk1, if_neg hk2, if_neg hn, if_neg hm, if_pos (.inr (by simpa using ht2))]
            clear HTC hk1 hk2 hn hm ht ht2
            go_wp2_with fail
            go_ret
            exact ⟨ret_int (by rw [hres.out]; rfl), hB5⟩
          | false =>
            have ht3 : (pp.tok.text == [102, 97, 108, 115, 101]) = false := ht2
            have hres : Hid ((tyOf xs its (ps.map toPt) (f + 1) k).toNat = tySign pp.tok.text (sl.map (tyOf xs its (ps.map toPt) f))) := by
              show _ = _; rw [HTC.out, if_neg hk1, if_neg hk2, if_neg hn, if_neg hm, if_neg]
              intro e; simp at ht ht2; rcases e with e | e
              · exact ht e
              · exact ht2 e
            have htw : Hid (pp.tok.text = [61] → 2 ≤ sl.length) := HTW.out hk1 hk2
            have hth : Hid (pp.tok.text = [105, 102] → 3 ≤ sl.length) := HTH.out hk1 hk2
            clear HTC hk1 hk2 hn hm ht ht2
            go_wp2_with fail
            refine (typeOfSign_any pp.tok.text (sl.map (tyOf xs its (ps.map toPt) f)) _ (fun e => by simpa using htw.out e) (fun e => by simpa using hth.out e)).mono ?_
            rintro e w6 ⟨rfl, nd, rfl⟩
            go_wp2_with fail
            go_ret
            exact ⟨ret_int (by rw [hres.out]), hB5.trans ⟨rfl, rfl, rfl, Nat.le_refl _, fun _ _ => rfl⟩⟩
  · have HSV : Hid _ := e2
    generalize pp.subs = sl at *
    rw [e2] at k3
    clear e2
    go_enter Tryz.func117, Tryz.ntmps117
    go_wp2_with fail
    · rw [← HSV.out]
      obtain ⟨hB0, hX0, hP0⟩ := HH0.out
      clear HH0 k0 k1 k2 k3 k4
      generalize ((w.alloc (polObj gi xs.length c g ps.length cap)).alloc (partObj pp)) = w0 at *
      go_loopw [8, 9] (fun tv j wr => ∃ (jj : Nat), jj ≤ sl.length ∧ j = .int .i64 jj ∧ (∀ q (hq : q < sl.length), q < jj → tyOf xs its (ps.map toPt) f sl[q] ≠ 0) ∧ wr.ownsRow w.heap.size 5 1 tv jj (byteCells ((sl.take jj).map (tyOf xs its (ps.map toPt) f))) ∧ Below w.heap.size w wr ∧ wr.heap[w.heap.size]? = some (polObj gi xs.length c g ps.length cap) ∧ wr.heap[w.heap.size + 1]? = some (partObj pp)) (fun _ j _ => sl.length - (intOf j).toNat)
      case atStart => exact ⟨0, Nat.zero_le _, rfl, fun q hq h => by omega, World.ownsRow_nil _ _ _ _, hB0, hX0, hP0⟩
      case round =>
        obtain ⟨jj, hjj, rfl, hnz, hown, hBw, hXw, hPw⟩ := hrel
        have q0 := cell_of_row wr w.heap.size 0 _ _ _ hXw
        have q1 := cell_of_row wr w.heap.size 1 _ _ _ hXw
        have p0 := cell_of_row wr (w.heap.size + 1) 0 _ _ _ hPw
        have p1 := cell_of_row wr (w.heap.size + 1) 1 _ _ _ hPw
        have p3 := cell_of_row wr (w.heap.size + 1) 3 _ _ _ hPw
        have lX := lt_of_get hXw
        have lP := lt_of_get hPw
        simp only [List.getElem?_toArray, List.getElem?_cons_zero, List.getElem?_cons_succ] at q0 q1 p0 p1 p3
        rw [HSV.out] at p3
        have HNZ : Hid _ := hnz
        clear hnz
        by_cases hlt : jj < sl.length
        · have hcj0 := hcs jj hlt
          have lsb := World.block_lt_of_cell? w _ hcj0
          simp only at lsb
          have hcj : wr.cell? ⟨sb, jj, none⟩ = some (.int .i64 sl[jj]) := by
            rw [hBw.cell (p := ⟨sb, jj, none⟩) lsb, hcj0, List.getD_eq_getElem?_getD, List.getElem?_eq_getElem hlt]; rfl
          clear hcj0
          have b3 : (0 : Int) ≤ (jj : Int) := by omega
          have b4 : (jj : Int) < (sl.length : Int) := by omega
          have hmem := HAH.out.2 sl[jj] (List.getElem_mem hlt)
          have hgj := HGD.out sl[jj] (List.getElem_mem hlt)
          go_wp2_with fail
          go_region_held3 (fun w' => w'.cell? ⟨w.heap.size, 0, none⟩ = some (.slice (some ⟨gi, 0, none⟩) xs.length c) ∧ w'.cell? ⟨w.heap.size, 1, none⟩ = some (.slice (some ⟨g, 0, none⟩) ps.length cap) ∧ w'.cell? ⟨w.heap.size + 1, 3, none⟩ = some (.slice (some ⟨sb, 0, none⟩) sl.length sl.length) ∧ w'.cell? ⟨sb, jj, none⟩ = some (.int .i64 sl[jj]))
            (first | go_keep | (go_split_ands; refine ⟨?_, ?_, ?_, ?_⟩ <;> (rw [hb5.cell (by simp <;> omega)]; first | assumption | (simp [*]; done))))
            (first | (go_at_call 117; refine (IH.out sl[jj] _ ((h.below hBw).below ((Below.refl _ _).drew)) (by omega) (by omega) hgj).mono ?_; rintro e w5 ⟨rfl, hb5⟩))
          rename_i hHeld
          clear hHeld
          have hb6 : Below wr.heap.size wr w5 := (Below.refl _ _).drew.trans hb5
          have hB5 : Below w.heap.size w w5 := hBw.trans (hb6.mono hBw.size)
          have hX5 : w5.heap[w.heap.size]? = some (polObj gi xs.length c g ps.length cap) := by rw [hb6.block _ lX]; exact hXw
          have hP5 : w5.heap[w.heap.size + 1]? = some (partObj pp) := by rw [hb6.block _ lP]; exact hPw
          have hown5 := ownsRow_below hown hb6
          have hs5 := hB5.size
          have HTK : Hid ((sl.take (jj + 1)).map (tyOf xs its (ps.map toPt) f) = (sl.take jj).map (tyOf xs its (ps.map toPt) f) ++ [tyOf xs its (ps.map toPt) f sl[jj]]) := by
            show _ = _; rw [List.take_succ_eq_append_getElem hlt, List.map_append]; rfl
          have HZ0 : Hid (tyOf xs its (ps.map toPt) f sl[jj] = 0 → tyOf xs its (ps.map toPt) (f + 1) k = 0) := fun hz => HZR.out jj hlt hz
          clear hb5 hb6 hown hBw hXw hPw q0 q1 p0 p1 p3 hcj
          generalize hTT : tyOf xs its (ps.map toPt) f sl[jj] = tt at *
          by_cases hz : tt = 0
          · have hz1 : ((tt.toNat : Int) == 0) = true := by rw [hz]; rfl
            have HR := HZ0.out hz
            go_wp2_with fail
            go_ret
            exact ⟨ret_int (by rw [HR]; rfl), hB5⟩
          · have hz1 : ((tt.toNat : Int) == 0) = false := by
              have : tt.toNat ≠ 0 := fun e => hz (UInt8.toNat_inj.1 e)
              simp; omega
            have hlen3 : sl.length ≤ 3 := HAH.out.1
            go_wp2_with (
              at_builtin
              go_must (refine wpList_append_lies _ (by rfl) _ _ 155 (by rfl) w.heap.size 5 i0 (.int .u8 0) 1 1 Tryz.underlying155 hi hz0 hz1' hz2 (by rfl) (by decide) _ _ _ (by rfl) (hown5.alloc _) ⟨w5.heap.size, 0, none⟩ 1 1 [.int .u8 tt.toNat] (by rfl) (by rfl) (cell_one_new _ _ _) (fun x hx => by simp at hx; subst hx; rfl) (by decide) (by unfold maxLen; omega) (by omega) (by simp; omega) _ rfl ?_)
              intro gt ct w7 hown7 hgrow7 hat7 hlt7)
            go_roundw
            case rel =>
              refine ⟨jj + 1, by omega, by go_num, ?_, ?_, below_far1 hB5 hown5 hgrow7, ?_, ?_⟩
              · intro q hq hqj
                by_cases e : q = jj
                · subst e; rw [hTT]; exact hz
                · exact HNZ.out q hq (by omega)
              · rw [HTK.out, byteCells_snoc]; exact hown7
              · rw [hgrow7.block _ (by have := lt_of_get hX5; simp; omega) (fun e => by obtain ⟨cs, hc⟩ := ownsRow_type hown5 e.symm; rw [hX5] at hc; simp at hc), Below.heap_alloc _ _ _ (lt_of_get hX5)]; exact hX5
              · rw [hgrow7.block _ (by have := lt_of_get hP5; simp; omega) (fun e => by obtain ⟨cs, hc⟩ := ownsRow_type hown5 e.symm; rw [hP5] at hc; simp at hc), Below.heap_alloc _ _ _ (lt_of_get hP5)]; exact hP5
            case measure => simp [intOf]; omega
        · have hje : jj = sl.length := by omega
          subst hje
          have HTY : Hid ((tyOf xs its (ps.map toPt) (f + 1) k).toNat = tyCase xs its pp.tok (sl.map (tyOf xs its (ps.map toPt) f))) := HCA.out fun j hj => by
            obtain ⟨q, hq, rfl⟩ := List.mem_iff_getElem.1 hj
            exact HNZ.out q hq hq
          have HCV : Hid (∀ w', Below wr.heap.size wr w' → (convert 155 9 u8).run Tryz.prog w' = .ok (S (sl.map (tyOf xs its (ps.map toPt) f))) w') := fun w' hb => conv_row (by rw [List.take_length] at hown; exact ownsRow_below hown hb)
          go_wp2_with fail
          clear hcs
          have lX := lt_of_get hXw
          have lP := lt_of_get hPw
          have hBs := hBw.size
          go_region_held3 (fun w' => w'.cell? ⟨w.heap.size + 1, 1, none⟩ = some (S pp.tok.text))
            (first | go_keep | (rw [hb1.cell (p := ⟨w.heap.size + 1, 1, none⟩) (by simp <;> omega)]; first | assumption | (simp [*]; done)))
            (first
              | (go_at_call 89; refine (members_any _).mono ?_; rintro e w1 ⟨x1, rfl, hc1, hb1, hl1, hs1⟩)
              | (go_at_call 87; refine (index_any kMembers _ x1 _ (by decide) hc1).mono ?_; rintro e w1 ⟨rfl, rfl⟩))
          rename_i hHeld
          clear hHeld
          have hb2 : Below wr.heap.size wr w1 := (Below.refl _ _).drew.trans hb1
          have hs2 := hb2.size
          have hX1 : w1.heap[w.heap.size]? = some (polObj gi xs.length c g ps.length cap) := by rw [hb2.block _ lX]; exact hXw
          have hP1 : w1.heap[w.heap.size + 1]? = some (partObj pp) := by rw [hb2.block _ lP]; exact hPw
          have p1 := cell_of_row w1 (w.heap.size + 1) 1 _ _ _ hP1
          simp only [List.getElem?_toArray, List.getElem?_cons_zero, List.getElem?_cons_succ] at p1
          clear hb1 hc1 hl1 hs1
          go_wp2_with fail
          go_region_held3 (fun w' => w'.cell? ⟨w.heap.size + 1, 1, none⟩ = some (S pp.tok.text))
            (first | go_keep | (rw [hb4.cell (p := ⟨w.heap.size + 1, 1, none⟩) (by simp <;> omega)]; first | assumption | (simp [*]; done)))
            (first
              | (go_at_call 88; refine (fields_any _).mono ?_; rintro e w5 ⟨x5, rfl, hc5, hb4, hl5, hs5⟩)
              | (go_at_call 87; refine (index_any kFields _ x5 _ (by decide) hc5).mono ?_; rintro e w5 ⟨rfl, rfl⟩))
          rename_i hHeld
          clear hHeld
          have hb6 : Below w1.heap.size w1 w5 := (Below.refl _ _).drew.trans hb4
          have hb7 : Below wr.heap.size wr w5 := hb2.trans (hb6.mono hs2)
          have hB5 : Below w.heap.size w w5 := hBw.trans (hb7.mono hBw.size)
          have hX5 : w5.heap[w.heap.size]? = some (polObj gi xs.length c g ps.length cap) := by rw [hb7.block _ lX]; exact hXw
          have hP5 : w5.heap[w.heap.size + 1]? = some (partObj pp) := by rw [hb7.block _ lP]; exact hPw
          have q0 := cell_of_row w5 w.heap.size 0 _ _ _ hX5
          have q1 := cell_of_row w5 w.heap.size 1 _ _ _ hX5
          have p0 := cell_of_row w5 (w.heap.size + 1) 0 _ _ _ hP5
          have p1 := cell_of_row w5 (w.heap.size + 1) 1 _ _ _ hP5
          have hcv := HCV.out w5 hb7
          have hs5' := hB5.size
          simp only [List.getElem?_toArray, List.getElem?_cons_zero, List.getElem?_cons_succ] at q0 q1 p0 p1
          have i1 := idx_ge kMembers pp.tok.text
          have i2 := idx_ge kFields pp.tok.text
          have i3 := idx_lt kFields pp.tok.text
          clear hb4 hc5 hl5 hs5 hb6 hb2 hb7 hX1 hP1 hXw hPw hBw lX lP hs2 hX5 hP5
          have hTC := HTY.out
          unfold tyCase at hTC
          generalize hM : idx kMembers pp.tok.text = m at *
          generalize hF : idx kFields pp.tok.text = n at *
          have HTC : Hid _ := hTC
          clear hTC hM hF
          by_cases hk1 : pp.tok.k = 110
          · have hk1' : ((pp.tok.k : Int) == 110) = true := by simp; omega
            have HR : Hid _ := HTC.out
            have hres : Hid ((tyOf xs its (ps.map toPt) (f + 1) k).toNat = 110) := by show _ = _; rw [HTC.out, if_pos hk1]
            clear HTC HR hk1
            go_wp2_with fail
            go_ret
            exact ⟨ret_int (by rw [hres.out]; rfl), hB5⟩
          have hk1' : ((pp.tok.k : Int) == 110) = false := by simp; omega
          by_cases hk2 : pp.tok.k = 111
          · have hk2' : ((pp.tok.k : Int) == 111) = true := by simp; omega
            have hge := HOW.out hk2
            have hres : Hid ((tyOf xs its (ps.map toPt) (f + 1) k).toNat = (its.getD (letIx xs pp.tok.text its.length).toNat 0).toNat) := by show _ = _; rw [HTC.out, if_neg hk1, if_pos hk2]
            have hll := letIx_lt xs pp.tok.text its.length
            have hpol := h.below hB5
            clear HTC hk1 hk2
            go_wp2_with fail
            refine (let_any hpol.items _ _ _ pp.tok.text its.length h.len).mono ?_
            rintro e w6 ⟨rfl, hb8⟩
            have hpol6 := hpol.below hb8
            have hB6 : Below w.heap.size w w6 := hB5.trans (hb8.mono hB5.size)
            obtain ⟨gb, rfl, hcb⟩ := bytes_at hpol6.bytes (letIx xs pp.tok.text its.length).toNat (by omega)
            obtain ⟨l, hl⟩ : ∃ l : Nat, letIx xs pp.tok.text its.length = l := ⟨_, (Int.toNat_of_nonneg hge).symm⟩
            rw [hl] at hcb hres hge hll ⊢
            simp only [Int.toNat_natCast] at hcb hres
            have c1 : (l : Int) < (its.length : Int) := by omega
            clear hl q0 q1 p0 p1 hcv hpol hpol6 hb8
            go_wp2_with fail
            go_ret
            exact ⟨ret_int (by rw [hres.out, List.getD_eq_getElem?_getD]), hB6⟩
          have hk2' : ((pp.tok.k : Int) == 111) = false := by simp; omega
          by_cases hn : 0 ≤ n
          · have hres : Hid ((tyOf xs its (ps.map toPt) (f + 1) k).toNat = (([110, 110, 110, 110, 109, 109, 109, 116, 116] : List UInt8).getD n.toNat 0).toNat) := by show _ = _; rw [HTC.out, if_neg hk1, if_neg hk2, if_pos hn]
            obtain ⟨l, rfl⟩ : ∃ l : Nat, n = l := ⟨n.toNat, (Int.toNat_of_nonneg hn).symm⟩
            have hl9 : l < 9 := by have : (kFields.length : Int) = 9 := rfl; omega
            simp only [Int.toNat_natCast] at hres
            clear HTC hk1 hk2
            have c1 : (l : Int) < 9 := by omega
            go_wp2_with fail
            go_ret
            refine ⟨ret_int ?_, hB5⟩
            rw [hres.out]
            have e9 : l = 0 ∨ l = 1 ∨ l = 2 ∨ l = 3 ∨ l = 4 ∨ l = 5 ∨ l = 6 ∨ l = 7 ∨ l = 8 := by omega
            rcases e9 with rfl | rfl | rfl | rfl | rfl | rfl | rfl | rfl | rfl <;> rfl
          by_cases hm : 0 ≤ m
          · have hres : Hid ((tyOf xs its (ps.map toPt) (f + 1) k).toNat = 109) := by show _ = _; rw [HTC.out, if_neg hk1, if_neg hk2, if_neg hn, if_pos hm]
            have hn' : n < 0 := by omega
            clear HTC hk1 hk2 hn
            go_wp2_with fail
            go_ret
            exact ⟨ret_int (by rw [hres.out]; rfl), hB5⟩
          have hn' : n < 0 := by omega
          have hm' : m < 0 := by omega
          cases ht : (pp.tok.text == wTrue) with
          | true =>
            have ht' : (pp.tok.text == [116, 114, 117, 101]) = true := ht
            have hres : Hid ((tyOf xs its (ps.map toPt) (f + 1) k).toNat = 116) := by show _ = _; rw [HTC.out, if_neg hk1, if_neg hk2, if_neg hn, if_neg hm, if_pos (.inl (by simpa using ht))]
            clear HTC hk1 hk2 hn hm ht
            go_wp2_with fail
            go_ret
            exact ⟨ret_int (by rw [hres.out]; rfl), hB5⟩
          | false =>
            have ht' : (pp.tok.text == [116, 114, 117, 101]) = false := ht
            cases ht2 : (pp.tok.text == wFalse) with
            | true =>
              have ht3 : (pp.tok.text == [102, 97, 108, 115, 101]) = true := ht2
              have hres : Hid ((tyOf xs its (ps.map toPt) (f + 1) k).toNat = 116) := by show _ = _; rw [HTC.out, if_neg hk1, if_neg hk2, if_neg hn, if_neg hm, if_pos (.inr (by simpa using ht2))]
              clear HTC hk1 hk2 hn hm ht ht2
              go_wp2_with fail
              go_ret
              exact ⟨ret_int (by rw [hres.out]; rfl), hB5⟩
            | false =>
              have ht3 : (pp.tok.text == [102, 97, 108, 115, 101]) = false := ht2
              have hres : Hid ((tyOf xs its (ps.map toPt) (f + 1) k).toNat = tySign pp.tok.text (sl.map (tyOf xs its (ps.map toPt) f))) := by
                show _ = _; rw [HTC.out, if_neg hk1, if_neg hk2, if_neg hn, if_neg hm, if_neg]
                intro e; simp at ht ht2; rcases e with e | e
                · exact ht e
                · exact ht2 e
              have htw : Hid (pp.tok.text = [61] → 2 ≤ sl.length) := HTW.out hk1 hk2
              have hth : Hid (pp.tok.text = [105, 102] → 3 ≤ sl.length) := HTH.out hk1 hk2
              clear HTC hk1 hk2 hn hm ht ht2
              go_wp2_with fail
              refine (typeOfSign_any pp.tok.text (sl.map (tyOf xs its (ps.map toPt) f)) _ (fun e => by simpa using htw.out e) (fun e => by simpa using hth.out e)).mono ?_
              rintro e w6 ⟨rfl, nd, rfl⟩
              go_wp2_with fail
              go_ret
              exact ⟨ret_int (by rw [hres.out]), hB5.trans ⟨rfl, rfl, rfl, Nat.le_refl _, fun _ _ => rfl⟩⟩
end Go.Proofs.YtfkdailfcmnjlaaGreatDoor

namespace Go.Proofs.YtfkdailfcmnjlaaGreatDoor
open Go Go.RowKit
set_option maxRecDepth 100000
attribute [local go_sem ↓] Go.wp_at_zero Go.wp_at_succ

theorem typeOf_any {B gi c g cap : Nat} {xs : List Itm} {ps : List PartS} {bv : Value} {its : List UInt8} {Good : Nat → Prop} (hA : Ahead (ps.map toPt)) (hG : Fine xs its.length (ps.map toPt) Good) (f : Nat) (hf2 : f ≤ 2000) :
    ∀ (k : Nat) (w : World), PolIn B gi c g cap xs ps bv its w → k < f → k < ps.length → Good k →
      Calls Tryz.prog 117 #[.agg #[.slice (some ⟨gi, 0, none⟩) xs.length c, .slice (some ⟨g, 0, none⟩) ps.length cap], .int .i64 k, bv] w fun e w' => e = .returned (.int .u8 (tyOf xs its (ps.map toPt) f k).toNat) ∧ Below w.heap.size w w' := by
  induction f with
  | zero => intro k w _ hk; omega
  | succ f ih => intro k w h hkf hk hg; exact typeOf_step hA hG f (by omega) (ih (by omega)) k w h hkf hk hg

theorem ownsRow_weak {w : World} {base base' : Nat} {e : TypeId} {size : Nat} {v : Value} {n : Nat} {xs : List Value} (h : w.ownsRow base e size v n xs) (hb : base' ≤ base) : w.ownsRow base' e size v n xs := by
  obtain ⟨h1, h2⟩ := h
  refine ⟨h1, ?_⟩
  rcases h2 with h2 | ⟨g, cap, cur, a, b, r⟩
  · exact .inl h2
  · exact .inr ⟨g, cap, cur, a, by omega, r⟩
theorem types_step (xs : List Itm) (L : List Pt) (j : Nat) (its : List UInt8) (hj : j < xs.length) : typesAt xs L (xs.drop j) its =
    if (tyOf xs its L (xs[j].top + 1) xs[j].top).toNat = 0 ∨ (xs[j].name = [] ∧ (tyOf xs its L (xs[j].top + 1) xs[j].top).toNat ≠ 116) then some xs[j].pl
    else typesAt xs L (xs.drop (j + 1)) (its ++ [tyOf xs its L (xs[j].top + 1) xs[j].top]) := by
  rw [List.drop_eq_getElem_cons hj, typesAt]

set_option maxHeartbeats 8000000 in
theorem types_any {B g cap : Nat} {iv : Value} {xs : List Itm} {ps : List PartS} {w : World} (h : ItemsIn B iv xs w) (hp : PartsIn B g cap ps w) (hB : B ≤ w.heap.size) (hA : Ahead (ps.map toPt)) (hT : ∀ x ∈ xs, x.top < ps.length)
    (hF : ∀ j (hj : j < xs.length), ∃ Good : Nat → Prop, Fine xs j (ps.map toPt) Good ∧ Good xs[j].top) :
    Calls Tryz.prog 64 #[.agg #[iv, .slice (some ⟨g, 0, none⟩) ps.length cap]] w fun e w' => e = .returned (placeV (typesAt xs (ps.map toPt) xs [])) ∧ Below w.heap.size w w' := by
  obtain ⟨i0, hi, hz0, hz1, hz2⟩ := info_parts info_byte
  have hb := (Below.refl w.heap.size w).alloc (Nat.le_refl _) (.cells #[iv, .slice (some ⟨g, 0, none⟩) ps.length cap] 90)
  rcases h.form with ⟨rfl, h0⟩ | ⟨gi, c, rfl⟩
  · have HB : Hid _ := hb
    have HE : Hid (typesAt xs (ps.map toPt) xs [] = none) := by
      show _ = _; cases xs with
      | nil => rfl
      | cons => simp at h0
    clear hb h0
    go_enter Tryz.func64, Tryz.ntmps64
    go_wp2_with fail
    go_loop [3, 4] (fun n i => n = .slice none 0 0 ∧ i = .int .i64 0) (fun _ _ => 0)
    case atStart => exact ⟨rfl, rfl⟩
    case round =>
      obtain ⟨rfl, rfl⟩ := hrel
      go_wp2_with fail
      go_ret
      exact ⟨by rw [HE.out]; rfl, HB.out⟩
  · have hbx : (w.alloc (polObj gi xs.length c g ps.length cap)).heap[w.heap.size]? = some (polObj gi xs.length c g ps.length cap) := heap_alloc_new w _
    have hf := h.few
    have hpf := hp.few
    have HX : Hid _ := hbx
    clear hbx
    go_enter Tryz.func64, Tryz.ntmps64
    go_wp2_with fail
    go_loopw [3, 4] (fun bv i wr => ∃ (its : List UInt8), its.length ≤ xs.length ∧ i = .int .i64 its.length ∧ wr.ownsRow w.heap.size 5 1 bv its.length (byteCells its) ∧ Hid (typesAt xs (ps.map toPt) xs [] = typesAt xs (ps.map toPt) (xs.drop its.length) its) ∧ Below w.heap.size w wr ∧ wr.heap[w.heap.size]? = some (polObj gi xs.length c g ps.length cap)) (fun _ i _ => xs.length - (intOf i).toNat)
    case atStart => exact ⟨[], Nat.zero_le _, rfl, World.ownsRow_nil _ _ _ _, rfl, hb, HX.out⟩
    case round =>
      obtain ⟨its, hj, rfl, hown, HM, hbw, hbx⟩ := hrel
      have q0 := cell_of_row wr w.heap.size 0 _ _ _ hbx
      have q1 := cell_of_row wr w.heap.size 1 _ _ _ hbx
      have hlw := lt_of_get hbx
      simp only [List.getElem?_toArray, List.getElem?_cons_zero, List.getElem?_cons_succ] at q0 q1
      by_cases hlt : its.length < xs.length
      · have hi' := h.below hbw
        obtain ⟨c0, c1, c2, c3, c4, c5⟩ := hi'.cells its.length hlt
        have HS : Hid _ := types_step xs (ps.map toPt) its.length its hlt
        obtain ⟨Good, hFine, hGood⟩ := hF its.length hlt
        have hTj := hT _ (List.getElem_mem hlt)
        have b1 : (0 : Int) ≤ (its.length : Int) := by omega
        have b2 : (its.length : Int) < (xs.length : Int) := by omega
        have lg := World.block_lt_of_cell? wr _ c0
        simp only at lg
        have hpol : PolIn B gi c g cap xs ps u3 its wr := ⟨hi', hp.below hbw, ownsRow_weak hown hB, by omega⟩
        have hsz := hbw.size
        obtain ⟨va, vc, hu3⟩ : ∃ a c, u3 = .slice a its.length c := by
          rcases hown.2 with ⟨e, hn⟩ | ⟨gg, cc, cur, e, _⟩
          · exact ⟨none, 0, by rw [hn]; exact e⟩
          · exact ⟨_, _, e⟩
        subst hu3
        go_wp2_with fail
        go_region_held3 (fun w' => w'.cell? ⟨w.heap.size, 0, none⟩ = some (.slice (some ⟨gi, 0, none⟩) xs.length c) ∧ w'.cell? ⟨w.heap.size, 1, none⟩ = some (.slice (some ⟨g, 0, none⟩) ps.length cap) ∧ w'.cell? ⟨gi, its.length * 6 + 2, none⟩ = some (.int .i64 xs[its.length].top))
          (first | go_keep | (go_split_ands; refine ⟨?_, ?_, ?_⟩ <;> (rw [hb5.cell (by simp <;> omega)]; first | assumption | (simp [*]; done))))
          (first | (go_at_call 117; refine (typeOf_any hA hFine (xs[its.length].top + 1) (by omega) xs[its.length].top _ (hpol.below ((Below.refl _ _).drew)) (by omega) hTj hGood).mono ?_; rintro e w5 ⟨rfl, hb5⟩))
        rename_i hHeld
        clear hHeld
        have hb6 : Below wr.heap.size wr w5 := (Below.refl _ _).drew.trans hb5
        have hB5 : Below w.heap.size w w5 := hbw.trans (hb6.mono hbw.size)
        have hX5 : w5.heap[w.heap.size]? = some (polObj gi xs.length c g ps.length cap) := by rw [hb6.block _ hlw]; exact hbx
        have q0 := cell_of_row w5 w.heap.size 0 _ _ _ hX5
        have q1 := cell_of_row w5 w.heap.size 1 _ _ _ hX5
        simp only [List.getElem?_toArray, List.getElem?_cons_zero, List.getElem?_cons_succ] at q0 q1
        obtain ⟨d0, d1, d2, d3, d4, d5⟩ := (hi'.below hb6).cells its.length hlt
        have hown5 := ownsRow_below hown hb6
        have hs5 := hB5.size
        clear hb5 hb6 hown hbw hbx hi' hpol c0 c1 c2 c3 c4 c5
        generalize tyOf xs its (ps.map toPt) (xs[its.length].top + 1) xs[its.length].top = tt at *
        have HQ : Hid ((tt.toNat = 0 ∨ (xs[its.length].name = [] ∧ tt.toNat ≠ 116) → typesAt xs (ps.map toPt) xs [] = some xs[its.length].pl) ∧ (¬ (tt.toNat = 0 ∨ (xs[its.length].name = [] ∧ tt.toNat ≠ 116)) → typesAt xs (ps.map toPt) xs [] = typesAt xs (ps.map toPt) (xs.drop (its.length + 1)) (its ++ [tt]))) := by
          refine ⟨fun e => ?_, fun e => ?_⟩
          · rw [HM.out, HS.out, if_pos e]
          · rw [HM.out, HS.out, if_neg e]
        clear HM HS
        by_cases hz : tt.toNat = 0
        · have hz1' : ((tt.toNat : Int) == 0) = true := by simp; omega
          have hres := HQ.out.1 (.inl hz)
          have HR : Hid _ := hres
          clear hres hz
          go_wp2_with fail
          go_ret
          exact ⟨by rw [HR.out]; rfl, hB5⟩
        have hz1' : ((tt.toNat : Int) == 0) = false := by simp; omega
        have hpush : ∀ (hno : ¬ (tt.toNat = 0 ∨ (xs[its.length].name = [] ∧ tt.toNat ≠ 116))), True := fun _ => trivial
        clear hpush
        cases hnm : (xs[its.length].name == []) with
        | true =>
          by_cases ht : tt.toNat = 116
          · have ht' : ((tt.toNat : Int) != 116) = false := by simp; omega
            have hres : Hid _ := HQ.out.2 (by intro e; rcases e with e | e; exact hz e; exact e.2 ht)
            clear HQ hz ht
            go_wp2_with (
              at_builtin
              go_must (refine wpList_append_lies _ (by rfl) _ _ 155 (by rfl) w.heap.size 5 i0 (.int .u8 0) 1 1 Tryz.underlying155 hi hz0 hz1 hz2 (by rfl) (by decide) _ _ _ (by rfl) (hown5.alloc _) ⟨w5.heap.size, 0, none⟩ 1 1 [.int .u8 tt.toNat] (by rfl) (by rfl) (cell_one_new _ _ _) (fun x hx => by simp at hx; subst hx; rfl) (by decide) (by unfold maxLen; omega) (by omega) (by simp; omega) _ rfl ?_)
              intro gt ct w7 hown7 hgrow7 hat7 hlt7)
            go_roundw
            case rel =>
              refine ⟨its ++ [tt], by simp; omega, by simp, ?_, ?_, below_far1 hB5 hown5 hgrow7, ?_⟩
              · rw [byteCells_snoc]; simpa using hown7
              · show _ = _; rw [hres.out]; simp
              · rw [hgrow7.block _ (by have := lt_of_get hX5; simp; omega) (fun e => by obtain ⟨cs, hc⟩ := ownsRow_type hown5 e.symm; rw [hX5] at hc; simp at hc), Below.heap_alloc _ _ _ (lt_of_get hX5)]; exact hX5
            case measure => simp [intOf]; omega
          · have ht' : ((tt.toNat : Int) != 116) = true := by simp; omega
            have hres : Hid _ := HQ.out.1 (.inr ⟨by simpa using hnm, ht⟩)
            clear HQ hz ht
            go_wp2_with fail
            go_ret
            exact ⟨by rw [hres.out]; rfl, hB5⟩
        | false =>
          have hres : Hid _ := HQ.out.2 (by intro e; rcases e with e | e; exact hz e; simp [e.1] at hnm)
          clear HQ hz
          go_wp2_with (
            at_builtin
            go_must (refine wpList_append_lies _ (by rfl) _ _ 155 (by rfl) w.heap.size 5 i0 (.int .u8 0) 1 1 Tryz.underlying155 hi hz0 hz1 hz2 (by rfl) (by decide) _ _ _ (by rfl) (hown5.alloc _) ⟨w5.heap.size, 0, none⟩ 1 1 [.int .u8 tt.toNat] (by rfl) (by rfl) (cell_one_new _ _ _) (fun x hx => by simp at hx; subst hx; rfl) (by decide) (by unfold maxLen; omega) (by omega) (by simp; omega) _ rfl ?_)
            intro gt ct w7 hown7 hgrow7 hat7 hlt7)
          go_roundw
          case rel =>
            refine ⟨its ++ [tt], by simp; omega, by simp, ?_, ?_, below_far1 hB5 hown5 hgrow7, ?_⟩
            · rw [byteCells_snoc]; simpa using hown7
            · show _ = _; rw [hres.out]; simp
            · rw [hgrow7.block _ (by have := lt_of_get hX5; simp; omega) (fun e => by obtain ⟨cs, hc⟩ := ownsRow_type hown5 e.symm; rw [hX5] at hc; simp at hc), Below.heap_alloc _ _ _ (lt_of_get hX5)]; exact hX5
          case measure => simp [intOf]; omega
      · go_wp2_with fail
        go_ret
        refine ⟨?_, hbw⟩
        rw [HM.out, List.drop_of_length_le (by omega)]; rfl
end Go.Proofs.YtfkdailfcmnjlaaGreatDoor

namespace Go.Proofs.YtfkdailfcmnjlaaGreatDoor
open Go Go.RowKit
set_option maxRecDepth 100000
attribute [local go_sem ↓] Go.wp_at_zero Go.wp_at_succ

set_option maxHeartbeats 2000000 in
theorem many_none (pa : Option Addr) (pn pc : Nat) (w : World) : Calls Tryz.prog 62 #[.agg #[.slice none 0 0, .slice pa pn pc]] w fun e w' => e = .returned (.int .i64 (-1)) ∧ Below w.heap.size w w' := by
  have HB : Hid _ := (Below.refl w.heap.size w).alloc (Nat.le_refl _) (.cells #[.slice none 0 0, .slice pa pn pc] 90)
  go_enter Tryz.func62, Tryz.ntmps62
  go_wp2_with fail
  go_loop [3, 4] (fun n i => n = .int .i64 0 ∧ i = .int .i64 0) (fun _ _ => 0)
  case atStart => exact ⟨rfl, rfl⟩
  case round =>
    obtain ⟨rfl, rfl⟩ := hrel
    go_wp2_with fail
    go_ret
    exact ⟨rfl, HB.out⟩

set_option maxHeartbeats 2000000 in
theorem names_none (pa : Option Addr) (pn pc : Nat) (w : World) : Calls Tryz.prog 63 #[.agg #[.slice none 0 0, .slice pa pn pc]] w fun e w' => e = .returned (.int .i64 (-1)) ∧ Below w.heap.size w w' := by
  have HB : Hid _ := (Below.refl w.heap.size w).alloc (Nat.le_refl _) (.cells #[.slice none 0 0, .slice pa pn pc] 90)
  go_enter Tryz.func63, Tryz.ntmps63
  go_wp2_with fail
  go_loop [3, 4] (fun n i => n = .int .i64 0 ∧ i = .int .i64 0) (fun _ _ => 0)
  case atStart => exact ⟨rfl, rfl⟩
  case round =>
    obtain ⟨rfl, rfl⟩ := hrel
    go_wp2_with fail
    go_ret
    exact ⟨rfl, HB.out⟩

set_option maxHeartbeats 2000000 in
theorem types_none (pa : Option Addr) (pn pc : Nat) (w : World) : Calls Tryz.prog 64 #[.agg #[.slice none 0 0, .slice pa pn pc]] w fun e w' => e = .returned (.int .i64 (-1)) ∧ Below w.heap.size w w' := by
  have HB : Hid _ := (Below.refl w.heap.size w).alloc (Nat.le_refl _) (.cells #[.slice none 0 0, .slice pa pn pc] 90)
  go_enter Tryz.func64, Tryz.ntmps64
  go_wp2_with fail
  go_loop [3, 4] (fun n i => n = .slice none 0 0 ∧ i = .int .i64 0) (fun _ _ => 0)
  case atStart => exact ⟨rfl, rfl⟩
  case round =>
    obtain ⟨rfl, rfl⟩ := hrel
    go_wp2_with fail
    go_ret
    exact ⟨rfl, HB.out⟩

abbrev polV (iv pv : Value) : Obj := .cells #[iv, pv] 90

/-- The policy that was read lies in memory. -/
structure PolOut (B : Nat) (L : List Pt) (xs : List Itm) (iv pv : Value) (w : World) : Prop where
  items : ItemsIn B iv xs w
  parts : ∃ ps : List PartS, w.ownsRow B 169 5 pv ps.length (partCells ps) ∧ (∀ p ∈ ps, SubsOK w p) ∧ ps.length ≤ 1001 ∧ (∀ p ∈ ps, p.n = numOf p.tok) ∧ ps.map toPt = L

/-- What 'read' answers: the policy, the error, the place. -/
def ReadAns (n k : Nat) (L : List Pt) (xs : List Itm) (w : World) (e : Ending) (w' : World) : Prop :=
  Below w.heap.size w w' ∧ ∃ iv pv, e = .returned (.tuple #[.agg #[iv, pv], .int .i64 n, .int .i64 k]) ∧ (∃ a b c, iv = .slice a b c) ∧ (∃ a b c, pv = .slice a b c) ∧ (n ≠ 0 → iv = .slice none 0 0 ∧ pv = .slice none 0 0) ∧ (n = 0 → PolOut w.heap.size L xs iv pv w')

theorem ans_err {n k : Nat} {L : List Pt} {xs : List Itm} {w w' : World} (hn : n ≠ 0) (hb : Below w.heap.size w w') : ReadAns n k L xs w (.returned (.tuple #[.agg #[.slice none 0 0, .slice none 0 0], .int .i64 n, .int .i64 k])) w' :=
  ⟨hb, _, _, rfl, ⟨_, _, _, rfl⟩, ⟨_, _, _, rfl⟩, fun _ => ⟨rfl, rfl⟩, fun e => absurd e hn⟩

set_option maxHeartbeats 2000000 in
theorem read_long (l : List UInt8) (w : World) (hl : 1000 < l.length) (hm : l.length ≤ maxLen) (L : List Pt) (xs : List Itm) : Calls Tryz.prog 33 #[S l] w (ReadAns 1 0 L xs w) := by
  unfold maxLen at hm
  go_enter Tryz.func33, Tryz.ntmps33
  go_wp2_with fail
  exact bodyPost_ret (v := .tuple #[.agg #[.slice none 0 0, .slice none 0 0], .int .i64 1, .int .i64 0]) (by simp [results, Tryz.results33, go_sem]) rfl (ans_err (n := 1) (k := 0) (by decide) (((Below.refl _ _).alloc (Nat.le_refl _) _).alloc (by simp) _))

theorem two_new (w : World) (o1 o2 : Obj) : Below w.heap.size w ((w.alloc o1).alloc o2) ∧ ((w.alloc o1).alloc o2).heap[w.heap.size]? = some o1 ∧ ((w.alloc o1).alloc o2).heap[w.heap.size + 1]? = some o2 := by
  refine ⟨((Below.refl _ _).alloc (Nat.le_refl _) _).alloc (by simp) _, ?_, ?_⟩
  · rw [Below.heap_alloc _ _ _ (by simp)]; exact heap_alloc_new w o1
  · have e := heap_alloc_new (w.alloc o1) o2
    rw [World.size_alloc] at e; exact e

set_option maxHeartbeats 2000000 in
theorem read_word (l : List UInt8) (w : World) (hl : l.length ≤ 1000) (ts : List Tok) (p : Nat) (hx : lex (l.length + 1) l 0 = (ts, some p)) (L : List Pt) (xs : List Itm) : Calls Tryz.prog 33 #[S l] w (ReadAns 2 p L xs w) := by
  obtain ⟨hB0, hR0, hP0⟩ := two_new w (polV (.slice none 0 0) (.slice none 0 0)) (polV (.slice none 0 0) (.slice none 0 0))
  have HL : Hid _ := hx
  have HH : Hid _ := And.intro hB0 (And.intro hR0 hP0)
  clear hx hB0 hR0 hP0
  go_enter Tryz.func33, Tryz.ntmps33
  go_wp2_with fail
  refine (words_any l _ hl).mono ?_
  rintro e w1 ⟨hb1, hans⟩
  rw [HL.out] at hans
  simp only at hans
  subst hans
  obtain ⟨hB0, hR0, hP0⟩ := HH.out
  have hR1 : w1.heap[w.heap.size]? = some (polV (.slice none 0 0) (.slice none 0 0)) := by rw [hb1.block _ (lt_of_get hR0)]; exact hR0
  have hP1 : w1.heap[w.heap.size + 1]? = some (polV (.slice none 0 0) (.slice none 0 0)) := by rw [hb1.block _ (lt_of_get hP0)]; exact hP0
  have hB1 : Below w.heap.size w w1 := hB0.trans (hb1.mono hB0.size)
  have r0 := cell_of_row w1 w.heap.size 0 _ _ _ hR1
  have r1 := cell_of_row w1 w.heap.size 1 _ _ _ hR1
  have p0 := cell_of_row w1 (w.heap.size + 1) 0 _ _ _ hP1
  have p1 := cell_of_row w1 (w.heap.size + 1) 1 _ _ _ hP1
  have rf : ∀ j, w1.frozen? ⟨w.heap.size, j, none⟩ = false := fun j => by simp [World.frozen?, hR1]
  simp only [List.getElem?_toArray, List.getElem?_cons_zero, List.getElem?_cons_succ] at r0 r1 p0 p1
  clear hb1 hB0 hR0 hP0 HH
  go_wp2_with fail
  exact bodyPost_ret (v := .tuple #[.agg #[.slice none 0 0, .slice none 0 0], .int .i64 2, .int .i64 p]) (by simp [results, Tryz.results33, go_sem, cell_set_same, cell_set_off, some_set, r0, r1]) rfl (ans_err (n := 2) (k := p) (by decide) ((hB1.setCell (p := ⟨w.heap.size, 0, none⟩) (Nat.le_refl _) _).setCell (p := ⟨w.heap.size, 1, none⟩) (Nat.le_refl _) _))
end Go.Proofs.YtfkdailfcmnjlaaGreatDoor

namespace Go.Proofs.YtfkdailfcmnjlaaGreatDoor
open Go Go.RowKit
set_option maxRecDepth 100000
attribute [local go_sem ↓] Go.wp_at_zero Go.wp_at_succ

theorem info_item : (Tryz.prog.info? 95).map (fun i => (i.zero, i.size, i.bytes)) = some (some (.agg #[.string ⟨#[]⟩, .bool false, .int .i64 0, .int .i64 0, .int .i64 0, .int .i64 0]), 6, 56) := by kernel_rfl

/-- What must be known of a policy that was read. -/
structure Facts (L : List Pt) (xs : List Itm) : Prop where
  ahead : Ahead L
  top : ∀ x ∈ xs, x.top < L.length
  parts : ∀ x ∈ xs, x.parts ≤ L.length
  fine : namesAt xs L xs 0 0 = none → ∀ j (hj : j < xs.length), ∃ Good : Nat → Prop, Fine xs j L Good ∧ Good xs[j].top

/-- At the head of the loop over the items. -/
structure AtItem (F : Nat) (ts : List Tok) (R : AllR) (rb gl cl : Nat) (w : World) (s : St) (xs : List Itm) (iv : Value) (wr : World) : Prop where
  rs : RS w.heap.size rb gl cl ts s wr
  good : s.bad = false
  nums : NumsOK s
  below : Below w.heap.size w wr
  res : wr.heap[w.heap.size]? = some (polV (.slice none 0 0) (.slice none 0 0))
  pol : wr.heap[w.heap.size + 1]? = some (polV iv (.slice none 0 0))
  row : wr.ownsRow w.heap.size 95 6 iv xs.length (itmCells xs)
  few : xs.length ≤ s.i
  rest : ∃ g, parseAll F ts g s.i (s.ps.map toPt) xs = some R
  apart : rb ≠ w.heap.size ∧ rb ≠ w.heap.size + 1
  empty : xs = [] → iv = .slice none 0 0

/-- A reader stands where blocks of other types alone have turned. -/
theorem RS.types {B rb gl cl : Nat} {ts : List Tok} {s : St} {w w' : World} (h : RS B rb gl cl ts s w) (ho : ∀ (k : Nat) (cs : Array Value) (e : TypeId), w.heap[k]? = some (.cells cs e (0, 0)) → e ≠ 95 → e ≠ 90 → w'.heap[k]? = w.heap[k]?) : RS B rb gl cl ts s w' := by
  refine ⟨?_, ?_, ?_, ?_, h.hb, h.hi, h.hn, h.fin, h.few⟩
  · rw [ho _ _ _ h.rd (by decide) (by decide)]; exact h.rd
  · refine ownsRow_of_block h.words fun k hk => ?_
    obtain ⟨cs', hc⟩ := ownsRow_type h.words hk
    exact ho k cs' _ hc (by decide) (by decide)
  · refine ownsRow_of_block h.parts fun k hk => ?_
    obtain ⟨cs', hc⟩ := ownsRow_type h.parts hk
    exact ho k cs' _ hc (by decide) (by decide)
  · intro p hp
    exact (h.subs p hp).of fun k cs' hk => ho k cs' _ hk (by decide) (by decide)

theorem Fr.under {B rb gl cl : Nat} {ts : List Tok} {s : St} {pv' : Value} {w w' : World} (h : RS B rb gl cl ts s w) (hF : Fr rb s.pv pv' w w') (hB : B ≤ w.heap.size) : Below B w w' :=
  ⟨hF.os, hF.tape, hF.output, hF.size, fun k hk => hF.block k (by omega) (by have := h.hb; omega) (fun e => by have := (h.parts.lt k e.symm).1; omega)⟩
theorem Fr.row {B rb gl cl : Nat} {ts : List Tok} {s s' : St} {w w' : World} (h : RS B rb gl cl ts s w) (hF : Fr rb s.pv s'.pv w w') {base : Nat} {v : Value} {n : Nat} {ys : List Value} (hr : w.ownsRow base 95 6 v n ys) : w'.ownsRow base 95 6 v n ys := by
  refine ownsRow_of_block hr fun k hk => ?_
  obtain ⟨cs, hc⟩ := ownsRow_type hr hk
  refine hF.block k (lt_of_get hc) (fun e => ?_) (own_ne h hc (by simp))
  subst e; rw [h.rd] at hc; simp at hc

theorem cell_six_new2 (w : World) (o : Obj) (x : Itm) : ∀ j u, [S x.name, .bool x.allow, .int .i64 x.top, .int .i64 x.pl, .int .i64 x.named, .int .i64 x.parts][j]? = some u → ((w.alloc o).alloc (itmObj x)).cell? ((⟨w.heap.size + 1, 0, none⟩ : Addr).add j) = some u := by
  have h := World.news_of_block (w := (w.alloc o).alloc (itmObj x)) (B := w.heap.size + 1) (cs := #[S x.name, .bool x.allow, .int .i64 x.top, .int .i64 x.pl, .int .i64 x.named, .int .i64 x.parts]) (t := 95) (fr := (0, 0)) (by have e := heap_alloc_new (w.alloc o) (itmObj x); rw [World.size_alloc] at e; exact e)
  intro j u hu
  exact h j u (by simpa using hu)

theorem one6 (x : Itm) : ∀ u ∈ [S x.name, .bool x.allow, .int .i64 x.top, .int .i64 x.pl, .int .i64 x.named, .int .i64 x.parts], u.oneCell' = true := by
  intro u hu
  simp at hu
  rcases hu with rfl | rfl | rfl | rfl | rfl | rfl <;> rfl
/-- Behind an append to the items a block of another type is as it was. -/
theorem item_far {w w' : World} {o1 o2 : Obj} {base n : Nat} {iv : Value} {ys : List Value} (hr : w.ownsRow base 95 6 iv n ys) (hg : ((w.alloc o1).alloc o2).grownBy w' iv.ownBlock) {k : Nat} {cs : Array Value} {e : TypeId} (hk : w.heap[k]? = some (.cells cs e (0, 0))) (he : e ≠ 95) : w'.heap[k]? = some (.cells cs e (0, 0)) := by
  rw [hg.block k (by have := lt_of_get hk; simp; omega) (fun e' => by obtain ⟨cs', hc⟩ := ownsRow_type hr e'.symm; rw [hk] at hc; simp at hc; exact he hc.2), Below.heap_alloc _ _ _ (by have := lt_of_get hk; simp; omega), Below.heap_alloc _ _ _ (lt_of_get hk)]
  exact hk

theorem at_next {F : Nat} {ts : List Tok} {R : AllR} {rb gl cl : Nat} {w w5 w7 : World} {s' : St} {xs : List Itm} {x : Itm} {iv v : Value} {o1 o2 : Obj} (h5 : RS w.heap.size rb gl cl ts s' w5) (good : s'.bad = false) (nums : NumsOK s') (hB5 : Below w.heap.size w w5)
    (hres5 : w5.heap[w.heap.size]? = some (polV (.slice none 0 0) (.slice none 0 0))) (hpol5 : w5.heap[w.heap.size + 1]? = some (polV iv (.slice none 0 0))) (hrow5 : w5.ownsRow w.heap.size 95 6 iv xs.length (itmCells xs))
    (hg : ((w5.alloc o1).alloc o2).grownBy w7 iv.ownBlock) (hown7 : w7.ownsRow w.heap.size 95 6 v (xs.length + 1) (itmCells xs ++ [S x.name, .bool x.allow, .int .i64 x.top, .int .i64 x.pl, .int .i64 x.named, .int .i64 x.parts]))
    (few : xs.length + 1 ≤ s'.i) (rest : ∃ g, parseAll F ts g s'.i (s'.ps.map toPt) (xs ++ [x]) = some R) (apart : rb ≠ w.heap.size ∧ rb ≠ w.heap.size + 1) :
    AtItem F ts R rb gl cl w s' (xs ++ [x]) v (w7.setCell ⟨w.heap.size + 1, 0, none⟩ v) := by
  have hpol7 := item_far hrow5 hg hpol5 (by decide)
  have hsz := hB5.size
  refine ⟨?_, good, nums, ?_, ?_, ?_, ?_, by simpa using few, rest, apart, by simp⟩
  · refine h5.types fun k cs e hk h1 h2 => ?_
    rw [Below.heap_setCell _ _ _ _ (fun hh => by simp at hh; subst hh; rw [hpol5] at hk; simp at hk; exact h2 hk.2.symm), item_far hrow5 hg hk h1, hk]
  · exact (Below.grown ((hB5.alloc (by omega) _).alloc (by simp; omega) _) hg (by simp; omega) (fun j hj => (hrow5.lt _ hj).1)).setCell (p := ⟨w.heap.size + 1, 0, none⟩) (by simp) _
  · rw [Below.heap_setCell _ _ _ _ (by simp)]; exact item_far hrow5 hg hres5 (by decide)
  · rw [heap_setCell_same w7 _ 0 _ _ _ hpol7]; simp
  · have h2 : w7.ownsRow w.heap.size 95 6 v (xs ++ [x]).length (itmCells (xs ++ [x])) := by rw [itmCells_snoc]; simpa using hown7
    refine ownsRow_of_block h2 fun k hk => Below.heap_setCell _ _ _ _ fun e => ?_
    simp at e; subst e
    obtain ⟨cs, hc⟩ := ownsRow_type h2 hk
    rw [hpol7] at hc; simp at hc

/-- Behind the items: the policy lies in its box. -/
structure Held (w : World) (xs : List Itm) (ps : List PartS) (iv pv : Value) (W : World) : Prop where
  below : Below w.heap.size w W
  res : W.heap[w.heap.size]? = some (polV (.slice none 0 0) (.slice none 0 0))
  pol : W.heap[w.heap.size + 1]? = some (polV iv pv)
  items : ItemsIn w.heap.size iv xs W
  row : W.ownsRow w.heap.size 169 5 pv ps.length (partCells ps)
  subs : ∀ p ∈ ps, SubsOK W p
  few : ps.length ≤ 1001
theorem Held.next {w : World} {xs : List Itm} {ps : List PartS} {iv pv : Value} {W W' : World} (h : Held w xs ps iv pv W) (hb : Below W.heap.size W W') : Held w xs ps iv pv W' :=
  ⟨h.below.trans (hb.mono h.below.size), by rw [hb.block _ (lt_of_get h.res)]; exact h.res, by rw [hb.block _ (lt_of_get h.pol)]; exact h.pol, h.items.below hb, ownsRow_below h.row hb, fun p hp => (h.subs p hp).of fun k _ hk => hb.block k (lt_of_get hk), h.few⟩
theorem Held.cells {w : World} {xs : List Itm} {ps : List PartS} {iv pv : Value} {W : World} (h : Held w xs ps iv pv W) :
    (W.cell? ⟨w.heap.size, 0, none⟩ = some (.slice none 0 0) ∧ W.cell? ⟨w.heap.size, 1, none⟩ = some (.slice none 0 0) ∧ W.cell? ⟨w.heap.size + 1, 0, none⟩ = some iv ∧ W.cell? ⟨w.heap.size + 1, 1, none⟩ = some pv) ∧ (∀ j, W.frozen? ⟨w.heap.size, j, none⟩ = false) := by
  have h1 := fun j => cell_of_row W w.heap.size j _ _ _ h.res
  have h2 := fun j => cell_of_row W (w.heap.size + 1) j _ _ _ h.pol
  exact ⟨⟨h1 0, h1 1, h2 0, h2 1⟩, fun j => by simp [World.frozen?, h.res]⟩
/-- The answer, where all went well. -/
theorem Held.out {w : World} {xs : List Itm} {ps : List PartS} {a a' : Option Addr} {b c b' c' : Nat} {W : World} (h : Held w xs ps (.slice a b c) (.slice a' b' c') W) (hn : ∀ p ∈ ps, p.n = numOf p.tok) :
    ReadAns 0 0 (ps.map toPt) xs w (.returned (.tuple #[.agg #[.slice a b c, .slice a' b' c'], .int .i64 (0 : Nat), .int .i64 (0 : Nat)])) ((W.setCell ⟨w.heap.size, 0, none⟩ (.slice a b c)).setCell ⟨w.heap.size, 1, none⟩ (.slice a' b' c')) := by
  have hty : ∀ (k : Nat) (cs : Array Value) (e : TypeId), W.heap[k]? = some (.cells cs e (0, 0)) → e ≠ 90 → ((W.setCell ⟨w.heap.size, 0, none⟩ (.slice a b c)).setCell ⟨w.heap.size, 1, none⟩ (.slice a' b' c')).heap[k]? = W.heap[k]? := fun k cs e hk he => by
    have hne : k ≠ w.heap.size := fun hh => by subst hh; rw [h.res] at hk; simp at hk; exact he hk.2.symm
    rw [Below.heap_setCell _ _ _ _ hne, Below.heap_setCell _ _ _ _ hne]
  refine ⟨(h.below.setCell (p := ⟨w.heap.size, 0, none⟩) (Nat.le_refl _) _).setCell (p := ⟨w.heap.size, 1, none⟩) (Nat.le_refl _) _, _, _, rfl, ⟨_, _, _, rfl⟩, ⟨_, _, _, rfl⟩, fun e => absurd rfl e, fun _ => ⟨⟨?_, h.items.few⟩, ps, ?_, ?_, h.few, hn, rfl⟩⟩
  · refine ownsRow_of_block h.items.row fun k hk => ?_
    obtain ⟨cs, hc⟩ := ownsRow_type h.items.row hk
    exact hty k cs _ hc (by decide)
  · refine ownsRow_of_block h.row fun k hk => ?_
    obtain ⟨cs, hc⟩ := ownsRow_type h.row hk
    exact hty k cs _ hc (by decide)
  · intro p hp
    exact (h.subs p hp).of fun k cs hk => hty k cs _ hk (by decide)
theorem AtItem.held {F : Nat} {ts : List Tok} {R : AllR} {rb gl cl : Nat} {w wr : World} {s : St} {xs : List Itm} {iv : Value} (ha : AtItem F ts R rb gl cl w s xs iv wr) : Held w xs s.ps iv s.pv ((wr.setCell ⟨w.heap.size + 1, 1, none⟩ s.pv).drew) := by
  have hty : ∀ (k : Nat) (cs : Array Value) (e : TypeId), wr.heap[k]? = some (.cells cs e (0, 0)) → e ≠ 90 → ((wr.setCell ⟨w.heap.size + 1, 1, none⟩ s.pv).drew).heap[k]? = wr.heap[k]? := fun k cs e hk he => Below.heap_setCell _ _ _ _ fun hh => by
    simp at hh; subst hh; rw [ha.pol] at hk; simp at hk; exact he hk.2.symm
  have hi := ha.rs.hi
  have hn := ha.rs.hn
  have hf := ha.rs.few
  refine ⟨(ha.below.setCell (p := ⟨w.heap.size + 1, 1, none⟩) (by simp) _).drew, ?_, ?_, ⟨?_, by have := ha.few; omega⟩, ?_, ?_, by omega⟩
  · show (wr.setCell ⟨w.heap.size + 1, 1, none⟩ s.pv).heap[w.heap.size]? = _
    rw [Below.heap_setCell _ _ _ _ (by simp)]; exact ha.res
  · show (wr.setCell ⟨w.heap.size + 1, 1, none⟩ s.pv).heap[w.heap.size + 1]? = _
    rw [heap_setCell_same wr _ 1 _ _ _ ha.pol]; simp
  · refine ownsRow_of_block ha.row fun k hk => ?_
    obtain ⟨cs, hc⟩ := ownsRow_type ha.row hk
    exact hty k cs _ hc (by decide)
  · refine ownsRow_of_block ha.rs.parts fun k hk => ?_
    obtain ⟨cs, hc⟩ := ownsRow_type ha.rs.parts hk
    exact hty k cs _ hc (by decide)
  · intro p hp
    exact (ha.rs.subs p hp).of fun k cs hk => hty k cs _ hk (by decide)

set_option maxHeartbeats 8000000 in
theorem read_items (l : List UInt8) (w : World) (hl : l.length ≤ 1000) (ts : List Tok) (hx : lex (l.length + 1) l 0 = (ts, none)) (hts : ∀ t ∈ ts, TokOK t) (hn : 0 < ts.length ∧ ts.length ≤ 1001) (hfin : ∀ i, i + 1 = ts.length → (ts.getD i noTok).k = 101)
    (F g : Nat) (R : AllR) (hR : parseAll F ts g 0 [] [] = some R) (hF : R.ok = true → Facts R.L R.xs) (hmono : ∀ i L r, itemP F ts i L = some r → r.ok = true → i < r.i) :
    Calls Tryz.prog 33 #[S l] w (ReadAns (verdictOf ts R).1 (verdictOf ts R).2 R.L R.xs w) := by
  obtain ⟨i0, hi, hz0, hz1, hz2⟩ := info_parts info_item
  obtain ⟨hB0, hR0, hP0⟩ := two_new w (polV (.slice none 0 0) (.slice none 0 0)) (polV (.slice none 0 0) (.slice none 0 0))
  have HL : Hid _ := hx
  have HH : Hid _ := And.intro hB0 (And.intro hR0 hP0)
  have HR : Hid _ := hR
  have HF : Hid _ := hF
  have HM : Hid _ := hmono
  clear hx hB0 hR0 hP0 hR hF hmono
  go_enter Tryz.func33, Tryz.ntmps33
  go_wp2_with fail
  refine (words_any l _ hl).mono ?_
  rintro e w1 ⟨hb1, hans⟩
  rw [HL.out] at hans
  simp only at hans
  obtain ⟨gl, cl, rfl, hown⟩ := hans
  obtain ⟨hB0, hR0, hP0⟩ := HH.out
  have hs0 : ((w.alloc (polV (.slice none 0 0) (.slice none 0 0))).alloc (polV (.slice none 0 0) (.slice none 0 0))).heap.size = w.heap.size + 2 := by simp
  have hs1 := hb1.size
  rw [hs0] at hs1
  have hstart : AtItem F ts R w1.heap.size gl cl w ⟨0, .slice none 0 0, [], false⟩ [] (.slice none 0 0) (w1.alloc (.cells #[.slice (some ⟨gl, 0, none⟩) ts.length cl, .int .i64 0, .slice none 0 0, .bool false] 149)) := by
    have hB1 : Below w.heap.size w w1 := hB0.trans (hb1.mono hB0.size)
    refine ⟨⟨heap_alloc_new w1 _, ?_, World.ownsRow_nil _ _ _ _, by simp, by omega, hn.1, hn.2, hfin, Nat.le_refl _⟩, rfl, by intro p hp; simp at hp, hB1.alloc (by omega) _, ?_, ?_, World.ownsRow_nil _ _ _ _, Nat.le_refl _, ⟨g, HR.out⟩, by omega, fun _ => rfl⟩
    · exact ownsRow_weak (hown.alloc _) (by rw [hs0]; omega)
    · rw [Below.heap_alloc _ _ _ (by omega), hb1.block _ (lt_of_get hR0)]; exact hR0
    · rw [Below.heap_alloc _ _ _ (by omega), hb1.block _ (lt_of_get hP0)]; exact hP0
  have HS : Hid _ := hstart
  clear hstart hown hb1 hB0 hR0 hP0 HH hs0 HL
  go_wp2_with fail
  go_loopw [9] (fun _ wr => ∃ (s : St) (xs : List Itm) (iv : Value), AtItem F ts R w1.heap.size gl cl w s xs iv wr) (fun _ wr => ts.length - rdI w1.heap.size wr)
  case atStart => exact ⟨_, _, _, HS.out⟩
  case round =>
    obtain ⟨s, xs, iv, ha⟩ := hrel
    generalize hrb : w1.heap.size = rb at *
    clear hrb HS
    have h := ha.rs
    obtain ⟨c0, c1, c2, c3⟩ := h.cells
    obtain ⟨k0, k1, k2⟩ := next_word h
    have hii := h.hi
    have b1 : (0 : Int) ≤ (s.i : Int) := by omega
    have b2 : (s.i : Int) < (ts.length : Int) := by omega
    go_wp2_with fail
    go_region_held (fun w' => w'.cell? ⟨rb, 0, none⟩ = some (.slice (some ⟨gl, 0, none⟩) ts.length cl) ∧ w'.cell? ⟨rb, 1, none⟩ = some (.int .i64 s.i) ∧ w'.cell? ⟨gl, s.i * 3, none⟩ = some (.int .u8 (tokAt ts s.i).k) ∧ w'.cell? ⟨gl, s.i * 3 + 1, none⟩ = some (S (tokAt ts s.i).text) ∧ w'.cell? ⟨gl, s.i * 3 + 2, none⟩ = some (.int .i64 (tokAt ts s.i).pl)) (go_keep) (fail)
    rename_i hHeld
    clear hHeld
    have hd : Below wr.heap.size wr wr.drew := (Below.refl _ _).drew
    have hsz := ha.below.size
    clear c0 c1 c2 c3 k0 k1 k2
    by_cases hk : (tokAt ts s.i).k = 101
    · have hk1 : (((tokAt ts s.i).k : Int) != 101) = false := by simp; omega
      obtain ⟨g0, hg0⟩ := ha.rest
      have hRR := parse_end hg0 hk
      have hH := ha.held
      have HRR : Hid _ := hRR
      have HFA : Hid (Facts (s.ps.map toPt) xs) := by have := HF.out (by rw [hRR]); rw [hRR] at this; exact this
      have HNU : Hid _ := ha.nums
      obtain ⟨pa, pc, hpv⟩ := h.pv_form
      obtain ⟨c0, c1, c2, c3⟩ := h.cells
      have p1 := cell_of_row wr (w.heap.size + 1) 1 _ _ _ ha.pol
      have pf : wr.frozen? ⟨w.heap.size + 1, 1, none⟩ = false := by simp [World.frozen?, ha.pol]
      simp only [List.getElem?_toArray, List.getElem?_cons_zero, List.getElem?_cons_succ] at p1
      rw [hpv] at c2 hH
      obtain ⟨⟨r0, r1, x0, x1⟩, rf⟩ := hH.cells
      simp only [World.cell?_drew, World.frozen?_drew] at r0 r1 x0 x1 rf
      clear hk hg0 hRR
      have hHH : Hid _ := hH
      clear hH
      rcases ha.held.items.form with ⟨hiv, hx0⟩ | ⟨gi, ci, hiv⟩
      · -- no item at all
        subst hiv
        have hxs : xs = [] := List.length_eq_zero_iff.1 hx0
        go_wp2_with fail
        refine (many_none _ _ _ _).mono ?_
        rintro e w5 ⟨rfl, hb5⟩
        have hH5 := hHH.out.next hb5
        obtain ⟨⟨r0, r1, x0, x1⟩, rf⟩ := hH5.cells
        go_wp2_with fail
        refine (names_none _ _ _ _).mono ?_
        rintro e w6 ⟨rfl, hb6⟩
        have hH6 := hH5.next hb6
        obtain ⟨⟨r0, r1, x0, x1⟩, rf⟩ := hH6.cells
        go_wp2_with fail
        refine (types_none _ _ _ _).mono ?_
        rintro e w7 ⟨rfl, hb7⟩
        have hH7 := hH6.next hb7
        obtain ⟨⟨r0, r1, x0, x1⟩, rf⟩ := hH7.cells
        have hV : Hid (verdictOf ts R = (0, 0) ∧ R.L = s.ps.map toPt ∧ R.xs = xs) := by rw [HRR.out, hxs]; exact ⟨rfl, rfl, rfl⟩
        go_wp2_with fail
        exact bodyPost_ret (v := .tuple #[.agg #[.slice none 0 0, .slice pa s.ps.length pc], .int .i64 0, .int .i64 0]) (by simp [results, Tryz.results33, go_sem, cell_set_same, cell_set_off, some_set, r0, r1]) rfl (by rw [hV.out.1, hV.out.2.1, hV.out.2.2]; exact hH7.out HNU.out)
      · have hxs : xs ≠ [] := fun e => by have := ha.empty e; rw [hiv] at this; simp at this
        have hxl : 0 < xs.length := List.length_pos_iff.2 hxs
        have hps : 0 < s.ps.length := by
          have := HFA.out.top xs[0] (List.getElem_mem hxl)
          simp at this; omega
        obtain ⟨gp, cp, hpv2, _, _⟩ := ha.held.row.form hps
        rw [hpv] at hpv2
        subst hiv
        have hpa : pa = some ⟨gp, 0, none⟩ ∧ pc = cp := by simp at hpv2; exact hpv2
        obtain ⟨rfl, rfl⟩ := hpa
        have hfa := HFA.out
        have HTOP : Hid (∀ x ∈ xs, x.top < s.ps.length) := fun x hx => by simpa using hfa.top x hx
        have HPAR : Hid (∀ x ∈ xs, x.parts ≤ s.ps.length) := fun x hx => by simpa using hfa.parts x hx
        have HAHD : Hid _ := hfa.ahead
        have HFIN : Hid (namesAt xs (s.ps.map toPt) xs 0 0 = none → ∀ j (hj : j < xs.length), ∃ Good : Nat → Prop, Fine xs j (s.ps.map toPt) Good ∧ Good xs[j].top) := hfa.fine
        clear hfa hpv2 HFA
        have hPI := fun (W : World) (hW : Held w xs s.ps (.slice (some ⟨gi, 0, none⟩) xs.length ci) (.slice (some ⟨gp, 0, none⟩) s.ps.length pc) W) => (⟨hW.row, hW.subs, hW.few⟩ : PartsIn w.heap.size gp pc s.ps W)
        have HPI : Hid _ := hPI
        have hpfew := ha.held.few
        clear hPI
        go_wp2_with fail
        refine (many_any hHH.out.items (HPI.out _ hHH.out) HAHD.out HTOP.out (fun x hx => Nat.le_trans (HPAR.out x hx) hpfew)).mono ?_
        rintro e w5 ⟨rfl, hb5⟩
        have hH5 := hHH.out.next hb5
        obtain ⟨⟨r0, r1, x0, x1⟩, rf⟩ := hH5.cells
        cases hmany : manyAt (s.ps.map toPt) xs 0 0 with
        | some p =>
          have hV : Hid (verdictOf ts R = (4, p)) := by show _ = _; rw [HRR.out]; simp [verdictOf, hmany]
          unfold placeV
          clear hmany
          go_wp2_with fail
          exact bodyPost_ret (v := .tuple #[.agg #[.slice none 0 0, .slice none 0 0], .int .i64 4, .int .i64 p]) (by simp [results, Tryz.results33, go_sem, cell_set_same, cell_set_off, some_set, r0, r1]) rfl (by rw [hV.out]; exact ans_err (n := 4) (k := p) (by decide) ((hH5.below.setCell (p := ⟨w.heap.size, 0, none⟩) (Nat.le_refl _) _).setCell (p := ⟨w.heap.size, 1, none⟩) (Nat.le_refl _) _))
        | none =>
          have HMA : Hid _ := hmany
          unfold placeV
          clear hmany
          go_wp2_with fail
          refine (names_any hH5.items (HPI.out _ hH5) HPAR.out).mono ?_
          rintro e w6 ⟨rfl, hb6⟩
          have hH6 := hH5.next hb6
          obtain ⟨⟨r0, r1, x0, x1⟩, rf⟩ := hH6.cells
          cases hnames : namesAt xs (s.ps.map toPt) xs 0 0 with
          | some p =>
            have hV : Hid (verdictOf ts R = (5, p)) := by show _ = _; rw [HRR.out]; simp [verdictOf, HMA.out, hnames]
            unfold placeV
            clear hnames
            go_wp2_with fail
            exact bodyPost_ret (v := .tuple #[.agg #[.slice none 0 0, .slice none 0 0], .int .i64 5, .int .i64 p]) (by simp [results, Tryz.results33, go_sem, cell_set_same, cell_set_off, some_set, r0, r1]) rfl (by rw [hV.out]; exact ans_err (n := 5) (k := p) (by decide) ((hH6.below.setCell (p := ⟨w.heap.size, 0, none⟩) (Nat.le_refl _) _).setCell (p := ⟨w.heap.size, 1, none⟩) (Nat.le_refl _) _))
          | none =>
            have HNA : Hid _ := hnames
            unfold placeV
            clear hnames
            go_wp2_with fail
            refine (types_any hH6.items (HPI.out _ hH6) hH6.below.size HAHD.out HTOP.out (HFIN.out HNA.out)).mono ?_
            rintro e w7 ⟨rfl, hb7⟩
            have hH7 := hH6.next hb7
            obtain ⟨⟨r0, r1, x0, x1⟩, rf⟩ := hH7.cells
            cases htypes : typesAt xs (s.ps.map toPt) xs [] with
            | some p =>
              have hV : Hid (verdictOf ts R = (6, p)) := by show _ = _; rw [HRR.out]; simp [verdictOf, HMA.out, HNA.out, htypes]
              unfold placeV
              clear htypes
              go_wp2_with fail
              exact bodyPost_ret (v := .tuple #[.agg #[.slice none 0 0, .slice none 0 0], .int .i64 6, .int .i64 p]) (by simp [results, Tryz.results33, go_sem, cell_set_same, cell_set_off, some_set, r0, r1]) rfl (by rw [hV.out]; exact ans_err (n := 6) (k := p) (by decide) ((hH7.below.setCell (p := ⟨w.heap.size, 0, none⟩) (Nat.le_refl _) _).setCell (p := ⟨w.heap.size, 1, none⟩) (Nat.le_refl _) _))
            | none =>
              have hV : Hid (verdictOf ts R = (0, 0) ∧ R.L = s.ps.map toPt ∧ R.xs = xs) := by rw [HRR.out]; exact ⟨by simp [verdictOf, HMA.out, HNA.out, htypes], rfl, rfl⟩
              unfold placeV
              clear htypes
              go_wp2_with fail
              exact bodyPost_ret (v := .tuple #[.agg #[.slice (some ⟨gi, 0, none⟩) xs.length ci, .slice (some ⟨gp, 0, none⟩) s.ps.length pc], .int .i64 0, .int .i64 0]) (by simp [results, Tryz.results33, go_sem, cell_set_same, cell_set_off, some_set, r0, r1]) rfl (by rw [hV.out.1, hV.out.2.1, hV.out.2.2]; exact hH7.out HNU.out)
    · have hk1 : (((tokAt ts s.i).k : Int) != 101) = true := by simp; omega
      obtain ⟨g0, hg0⟩ := ha.rest
      obtain ⟨r, g', hitem, hres⟩ := parse_step hg0 hk
      have HRES : Hid _ := hres
      clear hg0 hres hk
      go_wp2_with fail
      refine (item_any (h.below hd) hts (by simp; omega) ha.good ha.nums hitem).mono ?_
      rintro e w5 ⟨s', x, rfl, h5, F5, gr, ii, st⟩
      have hB5 : Below w.heap.size w w5 := (ha.below.trans (hd.mono hsz)).trans (F5.under (h.below hd) (by simp; omega))
      have hres5 : w5.heap[w.heap.size]? = some (polV (.slice none 0 0) (.slice none 0 0)) := F5.far (by exact ha.res) (by omega) (own_ne (h.below hd) (by exact ha.res) (by simp))
      have hpol5 : w5.heap[w.heap.size + 1]? = some (polV iv (.slice none 0 0)) := F5.far (by exact ha.pol) (by omega) (own_ne (h.below hd) (by exact ha.pol) (by simp))
      have hrow5 := F5.row (h.below hd) (ownsRow_below ha.row hd)
      have hst : Hid _ := st
      have II : Hid _ := ii
      clear st ii F5
      have ap := ha.apart
      have hfew := ha.few
      unfold itmV
      rcases hst.out with ⟨ok, good, nums, hL, hxe⟩ | ⟨bk, bad⟩
      · have hnext : Hid (∃ g, parseAll F ts g s'.i (s'.ps.map toPt) (xs ++ [x]) = some R) := by
          rcases HRES.out with ⟨_, hh⟩ | ⟨hh, _⟩
          · exact ⟨g', by rw [II.out, hL, hxe]; exact hh⟩
          · rw [ok] at hh; simp at hh
        have hlt := HM.out _ _ _ hitem ok
        have hlt2 : s.i < s'.i := by rw [II.out]; exact hlt
        obtain ⟨c0, c1, c2, c3⟩ := h5.cells
        rw [good] at c3
        have p0 := cell_of_row w5 (w.heap.size + 1) 0 _ _ _ hpol5
        have lp := lt_of_get hpol5
        have lr := lt_of_get hres5
        have lrb := World.block_lt_of_cell? _ _ c0
        simp only [List.getElem?_toArray, List.getElem?_cons_zero, List.getElem?_cons_succ] at p0
        simp only at lrb
        have h5i := h5.hi
        have h5n := h5.hn
        have hBs := hB5.size
        have HG : Hid _ := good
        have HN : Hid _ := nums
        clear hst HRES hL hxe hitem hlt c0 c1 c2 good nums
        have pfz : ∀ W : World, W.heap[w.heap.size + 1]? = some (polV iv (.slice none 0 0)) → (W.cell? ⟨w.heap.size + 1, 0, none⟩ = some iv ∧ W.frozen? ⟨w.heap.size + 1, 0, none⟩ = false) := fun W hW => ⟨cell_of_row W _ 0 _ _ _ hW, by simp [World.frozen?, hW]⟩
        have HPF : Hid _ := pfz
        clear pfz
        go_wp2_with (
          at_builtin
          go_must (refine wpList_append_lies _ (by rfl) _ _ 87 (by rfl) w.heap.size 95 i0 (.agg #[.string ⟨#[]⟩, .bool false, .int .i64 0, .int .i64 0, .int .i64 0, .int .i64 0]) 6 56 Tryz.underlying87 hi hz0 hz1 hz2 (by rfl) (by decide) _ _ _ (by rfl) ((hrow5.alloc _).alloc _) ⟨w5.heap.size + 1, 0, none⟩ 1 1 [S x.name, .bool x.allow, .int .i64 x.top, .int .i64 x.pl, .int .i64 x.named, .int .i64 x.parts] (by rfl) (by rfl) (cell_six_new2 _ _ x) (one6 x) (by decide) (by unfold maxLen; omega) (by omega) (by simp; omega) _ rfl ?_)
          intro gt ct w7 hown7 hgrow7 hat7 hlt7
          have hpol7 := item_far hrow5 hgrow7 hpol5 (by decide)
          have hpp := HPF.out w7 hpol7
          obtain ⟨pp0, pp1⟩ := hpp)
        go_roundw
        case rel => exact ⟨s', xs ++ [x], _, at_next h5 HG.out HN.out hB5 hres5 hpol5 hrow5 hgrow7 hown7 (by omega) hnext.out ap⟩
        case measure =>
          rw [rdI_eq (at_next h5 HG.out HN.out hB5 hres5 hpol5 hrow5 hgrow7 hown7 (by omega) hnext.out ap).rs, rdI_eq h]
          omega
      · have hRR : Hid (R = ⟨false, r.i, [], []⟩) := by
          show _ = _; rcases HRES.out with ⟨hh, _⟩ | ⟨_, hh⟩
          · rw [bk] at hh; simp at hh
          · exact hh
        have h6 := h5.below ((Below.refl _ _).alloc (Nat.le_refl _) (itmObj x))
        have hres6 : (w5.alloc (itmObj x)).heap[w.heap.size]? = some (polV (.slice none 0 0) (.slice none 0 0)) := by rw [Below.heap_alloc _ _ _ (lt_of_get hres5)]; exact hres5
        have hB6 : Below w.heap.size w (w5.alloc (itmObj x)) := hB5.alloc (by have := hB5.size; omega) _
        have hpl : Hid ((tokAt ts s'.i).pl = (tokAt ts r.i).pl) := by show _ = _; rw [II.out]
        obtain ⟨c0, c1, c2, c3⟩ := h6.cells
        obtain ⟨k0, k1, k2⟩ := next_word h6
        rw [bad] at c3
        have hi6 := h6.hi
        have b3 : (0 : Int) ≤ (s'.i : Int) := by omega
        have b4 : (s'.i : Int) < (ts.length : Int) := by omega
        have l0 := World.block_lt_of_cell? _ _ c0
        have l1 := World.block_lt_of_cell? _ _ k0
        have r0 := cell_of_row _ w.heap.size 0 _ _ _ hres6
        have r1 := cell_of_row _ w.heap.size 1 _ _ _ hres6
        have rf : ∀ j, (w5.alloc (itmObj x)).frozen? ⟨w.heap.size, j, none⟩ = false := fun j => by simp [World.frozen?, hres6]
        have ngl : gl ≠ w.heap.size := fun e => by
          obtain ⟨cs, hc⟩ := ownsRow_type h6.words (k := gl) rfl
          rw [e, hres6] at hc; simp at hc
        have hneq1 : w.heap.size ≠ gl := Ne.symm ngl
        have hneq2 : w.heap.size ≠ rb := Ne.symm ap.1
        simp only [List.getElem?_toArray, List.getElem?_cons_zero, List.getElem?_cons_succ] at r0 r1
        simp only at l0 l1
        have HB6 : Hid _ := hB6
        clear hst HRES h5 hres5 hpol5 hrow5 hB5 hB6 h6 c2
        go_wp2_with fail
        generalize w5.alloc (itmObj x) = w6 at *
        go_region_held3 (fun w' => w'.cell? ⟨rb, 0, none⟩ = some (.slice (some ⟨gl, 0, none⟩) ts.length cl) ∧ w'.cell? ⟨rb, 1, none⟩ = some (.int .i64 s'.i) ∧ w'.cell? ⟨gl, s'.i * 3 + 2, none⟩ = some (.int .i64 (tokAt ts s'.i).pl))
          (first | go_keep | (simp [*, set_far]; done)) (fail)
        have hV : Hid (∀ w', Below w.heap.size w w' → ReadAns (verdictOf ts R).1 (verdictOf ts R).2 R.L R.xs w (.returned (.tuple #[.agg #[.slice none 0 0, .slice none 0 0], .int .i64 3, .int .i64 (tokAt ts s'.i).pl])) w') := fun w' hw => by
          have e : verdictOf ts R = (3, (tokAt ts s'.i).pl) := by rw [hRR.out, hpl.out]; rfl
          rw [e]; exact ans_err (n := 3) (by decide) hw
        go_wp2_with fail
        exact bodyPost_ret (v := .tuple #[.agg #[.slice none 0 0, .slice none 0 0], .int .i64 3, .int .i64 (tokAt ts s'.i).pl]) (by simp [results, Tryz.results33, go_sem, cell_set_same, cell_set_off, some_set, r0, r1]) rfl (hV.out _ ((HB6.out.setCell (p := ⟨w.heap.size, 0, none⟩) (Nat.le_refl _) _).setCell (p := ⟨w.heap.size, 1, none⟩) (Nat.le_refl _) _).drew)
end Go.Proofs.YtfkdailfcmnjlaaGreatDoor

namespace Go.Proofs.YtfkdailfcmnjlaaGreatDoor

theorem wordAt_ok {l : List UInt8} {a : Nat} {t : Tok} (hl : l.length ≤ 1000) (ha : a < l.length) (h : wordAt l a = some t) : t.k ≠ 101 ∧ TokOK t := by
  have hlen := wordAt_len ha h
  refine ⟨?_, by omega, ?_⟩
  · unfold wordAt at h
    rw [List.getElem?_eq_getElem ha] at h
    simp only at h
    repeat' split at h
    all_goals first
      | (simp at h; subst h; simp)
      | (simp at h)
  · intro hk
    unfold wordAt at h
    split at h
    · split at h
      · simp at h
      · rename_i hb
        simp at h; subst h
        refine ⟨cut_stop isD l a, ?_⟩
        unfold big at hb; simpa using hb
    · exfalso
      rw [List.getElem?_eq_getElem ha] at h
      simp only at h
      repeat' split at h
      all_goals first
        | (simp at h; subst h; simp at hk)
        | (simp at h)

theorem lex_ok (l : List UInt8) (hl : l.length ≤ 1000) (f : Nat) : ∀ (a : Nat) (ts : List Tok), a ≤ l.length → l.length - a < f → lex f l a = (ts, none) →
    0 < ts.length ∧ ts.length ≤ l.length - a + 1 ∧ (∀ t ∈ ts, TokOK t) ∧ (∀ i, i + 1 = ts.length → (ts.getD i noTok).k = 101) ∧ (∀ i, i + 1 < ts.length → (ts.getD i noTok).k ≠ 101) := by
  induction f with
  | zero => intro a ts _ h; omega
  | succ f ih =>
    intro a ts ha hf h
    have h1 := stop_ge isB l a
    have h2 := stop_le isB l a ha
    rw [lex] at h
    by_cases he : l.length ≤ stop isB l a
    · rw [if_pos he] at h; simp at h; subst h
      refine ⟨by simp, by simp, ?_, ?_, ?_⟩
      · intro t ht; simp at ht; subst ht; exact ⟨by simp, fun e => by simp at e⟩
      · intro i hi; simp at hi; subst hi; rfl
      · intro i hi; simp at hi
    · rw [if_neg he] at h
      cases hw : wordAt l (stop isB l a) with
      | none => rw [hw] at h; simp at h
      | some t =>
        rw [hw] at h
        simp only [Prod.mk.injEq] at h
        obtain ⟨rfl, hn⟩ := h
        have hlen := wordAt_len (by omega) hw
        have hok := wordAt_ok hl (by omega) hw
        have := ih (stop isB l a + t.text.length) (lex f l (stop isB l a + t.text.length)).1 (by omega) (by omega) (by rw [← hn])
        obtain ⟨r1, r2, r3, r4, r5⟩ := this
        refine ⟨by simp, by simp; omega, ?_, ?_, ?_⟩
        · intro u hu; simp at hu; rcases hu with rfl | hu
          · exact hok.2
          · exact r3 u hu
        · intro i hi
          cases i with
          | zero => simp only [List.length_cons] at hi; omega
          | succ i => simpa using r4 i (by simpa using hi)
        · intro i hi
          cases i with
          | zero => simpa using hok.1
          | succ i => simpa using r5 i (by simpa using hi)

theorem item_kept {F : Nat} {ts : List Tok} {i : Nat} {L : List Pt} {r : ItR} (h : itemP F ts i L = some r) (ok : r.ok = true) :
    i < r.i ∧ (∃ new, r.L = L ++ new) ∧ Inv L.length r.L ∧ L.length ≤ r.it.top ∧ r.it.top < r.L.length ∧ r.it.parts = r.L.length := by
  have tail : ∀ (j : Nat) (x : Itm), i < j → itemTail F ts j L x = some r → i < r.i ∧ (∃ new, r.L = L ++ new) ∧ Inv L.length r.L ∧ L.length ≤ r.it.top ∧ r.it.top < r.L.length ∧ r.it.parts = r.L.length := by
    intro j x hj hr
    obtain ⟨a, ha, hres⟩ := tail_split hr
    rcases hres with ⟨oka, hw, rfl⟩ | ⟨_, hr1, _⟩
    · have k := P_kept F 6 ts j L 0 L.length a ha oka (Nat.le_refl _) (fun k h1 h2 => by omega) (by omega) (by omega)
      have f1 := k.fwd
      exact ⟨by simp; omega, k.more, k.inv, k.top.1, k.top.2, rfl⟩
    · rw [hr1] at ok; simp at ok
  unfold itemP at h
  split at h
  · split at h
    · split at h
      · exact tail _ _ (by omega) h
      · simp [itFail] at h; subst h; simp at ok
    · simp [itFail] at h; subst h; simp at ok
  · split at h
    · split at h
      · exact tail _ _ (by omega) h
      · simp [itFail] at h; subst h; simp at ok
    · simp [itFail] at h; subst h; simp at ok

theorem item_total {F : Nat} {ts : List Tok} (i : Nat) (L : List Pt) (hF : 16 * ts.length + 8 ≤ F) : ∃ r, itemP F ts i L = some r := by
  have tail : ∀ (j : Nat) (x : Itm), ∃ r, itemTail F ts j L x = some r := by
    intro j x
    obtain ⟨a, ha⟩ := P_total F 6 ts j L 0 (by have : wt 6 = 8 := rfl; omega) (by omega)
    unfold itemTail; rw [ha]; simp only
    repeat' split
    all_goals exact ⟨_, rfl⟩
  unfold itemP
  repeat' split
  all_goals first
    | exact tail _ _
    | exact ⟨_, rfl⟩

theorem parse_total {F : Nat} {ts : List Tok} (hF : 16 * ts.length + 8 ≤ F) (hfin : ∀ i, i + 1 = ts.length → (ts.getD i noTok).k = 101) (g : Nat) : ∀ (i : Nat) (L : List Pt) (xs : List Itm), ts.length - i < g → ∃ R, parseAll F ts g i L xs = some R := by
  induction g with
  | zero => intro i L xs h; omega
  | succ g ih =>
    intro i L xs h
    rw [parseAll]
    by_cases hk : (tokAt ts i).k = 101
    · rw [if_pos hk]; exact ⟨_, rfl⟩
    · rw [if_neg hk]
      obtain ⟨r, hr⟩ := item_total i L hF
      rw [hr]; simp only
      by_cases ok : r.ok = true
      · rw [if_pos ok]
        have := (item_kept hr ok).1
        by_cases hlt : i < ts.length
        · exact ih r.i r.L _ (by omega)
        · exfalso
          have hn : tokAt ts i = noTok := by unfold tokAt; rw [List.getD_eq_getElem?_getD, List.getElem?_eq_none (by omega)]; rfl
          unfold itemP at hr
          rw [hn] at hr
          have e1 : isW noTok wLet = false := by decide
          have e2 : isW noTok wAllow = false := by decide
          have e3 : isW noTok wDeny = false := by decide
          rw [e1, e2, e3] at hr
          simp [itFail] at hr; subst hr; simp at ok
      · rw [if_neg ok]; exact ⟨_, rfl⟩

/-- A run of parts that belongs to one item. -/
def Seg (L : List Pt) (fr to : Nat) : Prop := ∀ k, fr ≤ k → k < to → (L.getD k noPt).subs.length ≤ 3 ∧ (∀ j ∈ (L.getD k noPt).subs, fr ≤ j ∧ j < k) ∧ Arity (L.getD k noPt).tok (L.getD k noPt).subs.length
def Segs (L : List Pt) : List Itm → Nat → Prop
  | [], fr => fr = L.length
  | x :: r, fr => fr ≤ x.top ∧ x.top < x.parts ∧ x.parts ≤ L.length ∧ Seg L fr x.parts ∧ Segs L r x.parts

theorem Segs.snoc {L : List Pt} {xs : List Itm} {fr : Nat} (h : Segs L xs fr) (new : List Pt) (x : Itm) (h1 : L.length ≤ x.top) (h2 : x.top < x.parts) (h3 : x.parts = (L ++ new).length) (h4 : Inv L.length (L ++ new)) : Segs (L ++ new) (xs ++ [x]) fr := by
  induction xs generalizing fr with
  | nil =>
    have : fr = L.length := h
    subst this
    exact ⟨h1, h2, by omega, fun k a b => h4 k a (by omega), h3⟩
  | cons y r ih =>
    obtain ⟨a, b, c, d, e⟩ := h
    refine ⟨a, b, by simp; omega, ?_, ih e⟩
    intro k hk1 hk2
    rw [getD_left (by omega)]
    exact d k hk1 hk2

theorem parse_segs {F : Nat} {ts : List Tok} (g : Nat) : ∀ (i : Nat) (L : List Pt) (xs : List Itm) (R : AllR), Segs L xs 0 → parseAll F ts g i L xs = some R → R.ok = true → Segs R.L R.xs 0 := by
  induction g with
  | zero => intro i L xs R _ h; rw [parseAll] at h; simp at h
  | succ g ih =>
    intro i L xs R hs h ok
    by_cases hk : (tokAt ts i).k = 101
    · have := parse_end h hk; subst this; exact hs
    · rw [parseAll, if_neg hk] at h
      cases hr : itemP F ts i L with
      | none => rw [hr] at h; simp at h
      | some r =>
        rw [hr] at h
        simp only at h
        by_cases okr : r.ok = true
        · rw [if_pos okr] at h
          obtain ⟨_, ⟨new, e⟩, k2, k3, k4, k5⟩ := item_kept hr okr
          rw [e] at k2 k4 k5 h
          exact ih r.i (L ++ new) (xs ++ [r.it]) R (hs.snoc new r.it k3 (by omega) k5 k2) h ok
        · rw [if_neg okr] at h; simp at h; subst h; simp at ok

theorem Segs.all {L : List Pt} {xs : List Itm} {fr : Nat} (h : Segs L xs fr) : fr ≤ L.length ∧ (∀ k, fr ≤ k → k < L.length → (L.getD k noPt).subs.length ≤ 3 ∧ ∀ j ∈ (L.getD k noPt).subs, j < k) ∧ (∀ x ∈ xs, x.top < L.length ∧ x.parts ≤ L.length) := by
  induction xs generalizing fr with
  | nil =>
    have : fr = L.length := h
    subst this
    exact ⟨Nat.le_refl _, fun k a b => by omega, by simp⟩
  | cons y r ih =>
    obtain ⟨a, b, c, d, e⟩ := h
    obtain ⟨i1, i2, i3⟩ := ih e
    refine ⟨by omega, fun k hk1 hk2 => ?_, ?_⟩
    · by_cases hk : k < y.parts
      · have := d k hk1 hk
        exact ⟨this.1, fun j hj => (this.2.1 j hj).2⟩
      · exact i2 k (by omega) hk2
    · intro x hx; simp at hx; rcases hx with rfl | hx
      · omega
      · exact i3 x hx

theorem wrong_none {xs : List Itm} {L : List Pt} {i : Nat} (c : Nat) : ∀ (k : Nat) (o : Option Nat), wrongAt xs L i c k o = none → o = none ∧ ∀ q, k ≤ q → q < k + c → (L.getD q noPt).tok.k = 111 → 0 ≤ letIx xs (L.getD q noPt).tok.text i := by
  induction c with
  | zero => intro k o h; exact ⟨h, fun q h1 h2 => by omega⟩
  | succ c ih =>
    intro k o h
    rw [wrongAt] at h
    obtain ⟨h1, h2⟩ := ih _ _ h
    unfold wrongStep at h1
    by_cases hc : (L.getD k noPt).tok.k = 111 ∧ letIx xs (L.getD k noPt).tok.text i < 0
    · rw [if_pos hc] at h1
      exfalso
      cases o with
      | none => simp [better] at h1
      | some p =>
        have hbt : ∀ m, better m (some p) ≠ none := fun m => by simp only [better]; split <;> simp
        exact hbt _ h1
    · rw [if_neg hc] at h1
      refine ⟨h1, fun q hq1 hq2 hq3 => ?_⟩
      by_cases e : q = k
      · subst e
        by_cases hl : letIx xs (L.getD q noPt).tok.text i < 0
        · exact absurd ⟨hq3, hl⟩ hc
        · omega
      · exact h2 q (by omega) (by omega) hq3

theorem names_fine {xs : List Itm} {L : List Pt} (r : List Itm) : ∀ (fr i : Nat), Segs L r fr → namesAt xs L r fr i = none → ∀ j (hj : j < r.length), ∃ Good : Nat → Prop, Fine xs (i + j) L Good ∧ Good r[j].top := by
  induction r with
  | nil => intro fr i _ _ j hj; simp at hj
  | cons x r ih =>
    intro fr i hs hn j hj
    obtain ⟨a, b, c, d, e⟩ := hs
    rw [namesAt] at hn
    by_cases hc : x.name ≠ [] ∧ 0 ≤ letIx xs x.name i
    · rw [if_pos hc] at hn; simp at hn
    · rw [if_neg hc] at hn
      have hw : wrongAt xs L i (x.parts - fr) fr none = none := by
        cases hh : wrongAt xs L i (x.parts - fr) fr none with
        | none => rfl
        | some p => rw [hh] at hn; simp at hn
      rw [hw] at hn
      simp at hn
      cases j with
      | zero =>
        refine ⟨fun k => fr ≤ k ∧ k < x.parts, ⟨?_, ?_, ?_, ?_⟩, a, b⟩
        · intro k hk q hq
          have := (d k hk.1 hk.2).2.1 q hq
          omega
        · intro k hk h1
          exact (wrong_none _ _ _ hw).2 k hk.1 (by omega) h1
        · intro k hk h1 h2 h3; exact (d k hk.1 hk.2).2.2.1 h1 h2 h3
        · intro k hk h1 h2 h3; exact (d k hk.1 hk.2).2.2.2 h1 h2 h3
      | succ j =>
        have := ih x.parts (i + 1) e hn j (by simpa using hj)
        rw [show i + (j + 1) = i + 1 + j from by omega]
        exact this

theorem facts_of {F g : Nat} {ts : List Tok} {R : AllR} (h : parseAll F ts g 0 [] [] = some R) (ok : R.ok = true) : Facts R.L R.xs := by
  have hs := parse_segs g 0 [] [] R rfl h ok
  obtain ⟨_, h2, h3⟩ := hs.all
  refine ⟨fun k hk => h2 k (Nat.zero_le _) hk, fun x hx => (h3 x hx).1, fun x hx => (h3 x hx).2, fun hn j hj => ?_⟩
  have := names_fine R.xs 0 0 hs hn j hj
  rw [Nat.zero_add] at this
  exact this
end Go.Proofs.YtfkdailfcmnjlaaGreatDoor

namespace Go.Proofs.YtfkdailfcmnjlaaGreatDoor
open Go Go.RowKit
set_option maxRecDepth 100000

/-- What all items of words are. -/
def allOf (ts : List Tok) : AllR := (parseAll (16 * ts.length + 8) ts (ts.length + 1) 0 [] []).getD ⟨false, 0, [], []⟩
/-- What reading a text answers: the error and the place; the parts; the items. -/
def readOf (l : List UInt8) : (Nat × Nat) × List Pt × List Itm :=
  if 1000 < l.length then ((1, 0), [], [])
  else match (lex (l.length + 1) l 0).2 with
    | some p => ((2, p), [], [])
    | none => (verdictOf (lex (l.length + 1) l 0).1 (allOf (lex (l.length + 1) l 0).1), (allOf (lex (l.length + 1) l 0).1).L, (allOf (lex (l.length + 1) l 0).1).xs)

theorem read_any (l : List UInt8) (w : World) (hm : l.length ≤ maxLen) : Calls Tryz.prog 33 #[S l] w (ReadAns (readOf l).1.1 (readOf l).1.2 (readOf l).2.1 (readOf l).2.2 w) := by
  unfold readOf
  by_cases h1 : 1000 < l.length
  · rw [if_pos h1]; exact read_long l w h1 hm _ _
  · rw [if_neg h1]
    cases hx : (lex (l.length + 1) l 0).2 with
    | some p => exact read_word l w (by omega) (lex (l.length + 1) l 0).1 p (by rw [← hx]) _ _
    | none =>
      have hlex : lex (l.length + 1) l 0 = ((lex (l.length + 1) l 0).1, none) := by rw [← hx]
      obtain ⟨r1, r2, r3, r4, r5⟩ := lex_ok l (by omega) (l.length + 1) 0 _ (Nat.zero_le _) (by omega) hlex
      generalize (lex (l.length + 1) l 0).1 = ts at *
      obtain ⟨R, hR⟩ := parse_total (F := 16 * ts.length + 8) (Nat.le_refl _) r4 (ts.length + 1) 0 [] [] (by omega)
      have e : allOf ts = R := by unfold allOf; rw [hR]; rfl
      rw [e]
      exact read_items l w (by omega) ts hlex r3 ⟨r1, by omega⟩ r4 _ _ R hR (facts_of hR) (fun i L r hr ok => (item_kept hr ok).1)

set_option maxHeartbeats 1000000 in
theorem check_ref (l : List UInt8) (w : World) (hm : l.length ≤ maxLen) : Calls Tryz.prog 12 #[S l] w fun e w' => e = .returned (.tuple #[.int .i64 (readOf l).1.1, .int .i64 (readOf l).1.2]) ∧ Below w.heap.size w w' := by
  go_enter Tryz.func12, Tryz.ntmps12
  go_wp2_with fail
  refine (read_any l _ hm).mono ?_
  rintro e w1 ⟨hb, iv, pv, rfl, ⟨a, b, c, rfl⟩, ⟨a', b', c', rfl⟩, _, _⟩
  generalize hn : (readOf l).1.1 = n at *
  generalize hk : (readOf l).1.2 = k at *
  have HN : Hid _ := hn
  have HK : Hid _ := hk
  clear hn hk
  go_wp2_with fail
  go_ret2
  refine ⟨?_, hb.alloc hb.size _⟩
  rw [HN.out, HK.out]; rfl
end Go.Proofs.YtfkdailfcmnjlaaGreatDoor
