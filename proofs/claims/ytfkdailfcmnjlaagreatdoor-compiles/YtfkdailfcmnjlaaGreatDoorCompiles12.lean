/-
  The reference's method 'item' at a let that has no own name. The reference's method 'item' at a let that has an own name. The reference's method 'item' at a let that has an own name and its sign. The reference's method 'item' whole; its function 'depth'. The reference's methods 'let' and 'many'.
-/
import Derived.Test.YtfkdailfcmnjlaaGreatDoorCompiles01
import Derived.Test.YtfkdailfcmnjlaaGreatDoorCompiles04
import Derived.Test.YtfkdailfcmnjlaaGreatDoorCompiles05
import Derived.Test.YtfkdailfcmnjlaaGreatDoorCompiles06
import Derived.Test.YtfkdailfcmnjlaaGreatDoorCompiles07
import Derived.Test.YtfkdailfcmnjlaaGreatDoorCompiles08
import Derived.Test.YtfkdailfcmnjlaaGreatDoorCompiles09
import Derived.Test.YtfkdailfcmnjlaaGreatDoorCompiles10
import Derived.Test.YtfkdailfcmnjlaaGreatDoorCompiles11
import Derived.WalkKit
import Derived.Deep.QuietTactic
import Derived.BigQuiet
import Derived.WalkSpells
import GoSem.Op.String
import Derived.Deep.AppendLies
import Derived.Deep.RegionHeld3
import Derived.Deep.DrawnRows
import Derived.Deep.RegionHeldLaw
import Derived.Deep.RegionLaw
set_option linter.unusedVariables false
set_option linter.unusedSimpArgs false
namespace Go.Proofs.YtfkdailfcmnjlaaGreatDoor
open Go Go.RowKit
set_option maxRecDepth 100000
attribute [local go_sem ↓] Go.wp_at_zero Go.wp_at_succ

set_option maxHeartbeats 8000000 in
theorem item_let_no {B rb gl cl : Nat} {ts : List Tok} {s : St} {w : World} {r : ItR} (h : RS B rb gl cl ts s w) (hB : B ≤ w.heap.size)
    (hgood : s.bad = false) (hw : isW (tokAt ts s.i) wLet = true)
    (ho : ¬ (tokAt ts (s.i + 1)).k = 111) (hr : r = ⟨false, s.i + 1, [], noItm⟩) :
    Calls Tryz.prog 61 #[.pointer (some ⟨rb, 0, none⟩)] w (LeftI B rb gl cl ts s w r) := by
  have e1 : Hid (seesB s.bad (tokAt ts s.i) wLet = true) := by show _ = _; unfold seesB; rw [hgood, hw]; rfl
  have hxt : (tokAt ts s.i).text = wLet := by unfold isW at hw; simp at hw; exact hw.2
  have e2 : Hid (seesB s.bad (tokAt ts s.i) wAllow = false) := by
    show _ = _; unfold seesB isW; rw [hxt]; simp [wAllow, wLet]
  have e3 : Hid (seesB s.bad (tokAt ts s.i) wDeny = false) := by
    show _ = _; unfold seesB isW; rw [hxt]; simp [wDeny, wLet]
  have hnx := sees_next h e1.out
  have HXT : Hid _ := hxt
  clear hw hxt
  have H2 : Hid _ := hgood
  have HR : Hid _ := hr
  clear hr hgood
  obtain ⟨c0, c1, c2, c3⟩ := h.cells
  obtain ⟨k0, k1, k2⟩ := next_word h
  have hi := h.hi
  have hn := h.hn
  have b1 : (0 : Int) ≤ (s.i : Int) := by omega
  have b2 : (s.i : Int) < (ts.length : Int) := by omega
  have l0 := World.block_lt_of_cell? w _ c0
  have l1 := World.block_lt_of_cell? w _ k0
  simp only at l0 l1
  have n0 : w.heap.size ≠ rb := by omega
  have n1 : w.heap.size + 1 ≠ rb := by omega
  have m0 : w.heap.size ≠ gl := by omega
  have m1 : w.heap.size + 1 ≠ gl := by omega
  clear c2 c3
  go_enter Tryz.func61, Tryz.ntmps61
  go_wp2_with fail
  go_region_held (fun w' => w'.cell? ⟨rb, 0, none⟩ = some (.slice (some ⟨gl, 0, none⟩) ts.length cl) ∧ w'.cell? ⟨rb, 1, none⟩ = some (.int .i64 s.i) ∧ w'.cell? ⟨gl, s.i * 3, none⟩ = some (.int .u8 (tokAt ts s.i).k) ∧ w'.cell? ⟨gl, s.i * 3 + 1, none⟩ = some (S (tokAt ts s.i).text) ∧ w'.cell? ⟨gl, s.i * 3 + 2, none⟩ = some (.int .i64 (tokAt ts s.i).pl)) (go_keep) (fail)
  rename_i hHeld
  clear hHeld
  obtain ⟨hbW, hR, hX⟩ := three_new w (itmObj noItm) (wordObj (tokAt ts s.i)) (itmObj ⟨[], (tokAt ts s.i).text == wAllow, 0, (tokAt ts s.i).pl, 0, 0⟩)
  have hW := h.below hbW
  clear c0 c1 k0 k1 k2 n0 n1 m0 m1
  go_wp2_with fail
  refine (sees_any hW wLet).mono ?_
  rintro e w1 ⟨rfl, hb1⟩
  have hW1 := hW.below hb1
  have hR1 : w1.heap[w.heap.size]? = some (itmObj noItm) := by rw [hb1.block _ (lt_of_get hR)]; exact hR
  have hX1 : w1.heap[w.heap.size + 1 + 1]? = some (itmObj ⟨[], (tokAt ts s.i).text == wAllow, 0, (tokAt ts s.i).pl, 0, 0⟩) := by rw [hb1.block _ (lt_of_get hX)]; exact hX
  have hbW1 : Below w.heap.size w w1 := hbW.trans (hb1.mono hbW.size)
  clear hbW hR hX hW hb1
  rw [e1.out]
  go_wp2_with fail
  refine (sees_any hW1 wAllow).mono ?_
  rintro e w2 ⟨rfl, hb2⟩
  have hW2 := hW1.below hb2
  have hR2 : w2.heap[w.heap.size]? = some (itmObj noItm) := by rw [hb2.block _ (lt_of_get hR1)]; exact hR1
  have hX2 : w2.heap[w.heap.size + 1 + 1]? = some (itmObj ⟨[], (tokAt ts s.i).text == wAllow, 0, (tokAt ts s.i).pl, 0, 0⟩) := by rw [hb2.block _ (lt_of_get hX1)]; exact hX1
  have hbW2 : Below w.heap.size w w2 := hbW1.trans (hb2.mono hbW1.size)
  clear hbW1 hR1 hX1 hW1 hb2
  rw [e2.out]
  go_wp2_with fail
  refine (sees_any hW2 wDeny).mono ?_
  rintro e w3 ⟨rfl, hb3⟩
  have hW3 := hW2.below hb3
  have hR3 : w3.heap[w.heap.size]? = some (itmObj noItm) := by rw [hb3.block _ (lt_of_get hR2)]; exact hR2
  have hX3 : w3.heap[w.heap.size + 1 + 1]? = some (itmObj ⟨[], (tokAt ts s.i).text == wAllow, 0, (tokAt ts s.i).pl, 0, 0⟩) := by rw [hb3.block _ (lt_of_get hX2)]; exact hX2
  have hbW3 : Below w.heap.size w w3 := hbW2.trans (hb3.mono hbW2.size)
  clear hbW2 hR2 hX2 hW2 hb3
  rw [e3.out]
  obtain ⟨c0, c1, c2, c3⟩ := hW3.cells
  have hf := hW3.free
  obtain ⟨⟨r0, r1, r2, r3, r4, r5⟩, rf⟩ := itm_cells hR3
  obtain ⟨⟨x0, x1, x2, x3, x4, x5⟩, xf⟩ := itm_cells hX3
  have hx' : (s.i : Int) + 1 ≤ 2000 := by omega
  have s1 := fun v j => set_far w3 rb w.heap.size 1 j v (by omega)
  have s2 := fun v j => set_far w3 rb (w.heap.size + 1 + 1) 1 j v (by omega)
  go_wp2_with fail
  have h4 := hW3.next hnx.1
  have F4 : Fr rb s.pv s.pv w (w3.setCell ⟨rb, 1, none⟩ (.int .i64 ((s.i : Int) + 1))) := (Fr.of_below hbW3).set l0 _ _
  have hR4 : (w3.setCell ⟨rb, 1, none⟩ (.int .i64 ((s.i : Int) + 1))).heap[w.heap.size]? = some (itmObj noItm) := by rw [Below.heap_setCell _ _ _ _ (by simp; omega)]; exact hR3
  have hX4 : (w3.setCell ⟨rb, 1, none⟩ (.int .i64 ((s.i : Int) + 1))).heap[w.heap.size + 1 + 1]? = some (itmObj ⟨[], (tokAt ts s.i).text == wAllow, 0, (tokAt ts s.i).pl, 0, 0⟩) := by rw [Below.heap_setCell _ _ _ _ (by simp; omega)]; exact hX3
  clear hW3 hbW3 hR3 hX3 c0 c1 c2 c3 hf r0 r1 r2 r3 r4 r5 rf x0 x1 x2 x3 x4 x5 xf s1 s2
  generalize w3.setCell ⟨rb, 1, none⟩ (.int .i64 ((s.i : Int) + 1)) = w4 at *
  obtain ⟨s4, hs4⟩ : ∃ s4 : St, s4 = { s with i := s.i + 1 } := ⟨_, rfl⟩
  rw [← hs4] at h4
  have HS4 : Hid _ := hs4
  have e4 : Hid (s4.i = s.i + 1 ∧ s4.bad = s.bad ∧ s4.pv = s.pv ∧ s4.ps = s.ps) := by rw [hs4]; exact ⟨rfl, rfl, rfl, rfl⟩
  have F4' : Fr rb s.pv s4.pv w w4 := by rw [e4.out.2.2.1]; exact F4
  clear hs4 F4
  obtain ⟨c0, c1, c2, c3⟩ := h4.cells
  obtain ⟨k0, k1, k2⟩ := next_word h4
  have hi4 := h4.hi
  have b3 : (0 : Int) ≤ (s4.i : Int) := by omega
  have b4 : (s4.i : Int) < (ts.length : Int) := by omega
  have n0 := World.new_ne w4 _ c0
  have n1 := World.new_ne w4 _ c1
  have m0 := World.new_ne w4 _ k0
  have m1 := World.new_ne w4 _ k1
  have m2 := World.new_ne w4 _ k2
  have hsz4 := F4'.size
  have lR4 := lt_of_get hR4
  have lX4 := lt_of_get hX4
  go_region_held (fun w' => w'.cell? ⟨rb, 0, none⟩ = some (.slice (some ⟨gl, 0, none⟩) ts.length cl) ∧ w'.cell? ⟨rb, 1, none⟩ = some (.int .i64 s4.i) ∧ w'.cell? ⟨gl, s4.i * 3, none⟩ = some (.int .u8 (tokAt ts s4.i).k) ∧ w'.cell? ⟨gl, s4.i * 3 + 1, none⟩ = some (S (tokAt ts s4.i).text) ∧ w'.cell? ⟨gl, s4.i * 3 + 2, none⟩ = some (.int .i64 (tokAt ts s4.i).pl)) (go_keep) (fail)
  rename_i hHeld
  clear hHeld
  have h5 := h4.below (below_word w4 (wordObj (tokAt ts s4.i)))
  have hO5 : ((w4.alloc (wordObj (tokAt ts s4.i))).drew).heap[w4.heap.size]? = some (wordObj (tokAt ts s4.i)) := heap_alloc_new w4 _
  have hR5 : ((w4.alloc (wordObj (tokAt ts s4.i))).drew).heap[w.heap.size]? = some (itmObj noItm) := by rw [(below_word w4 _).block _ lR4]; exact hR4
  have hX5 : ((w4.alloc (wordObj (tokAt ts s4.i))).drew).heap[w.heap.size + 1 + 1]? = some (itmObj ⟨[], (tokAt ts s.i).text == wAllow, 0, (tokAt ts s.i).pl, 0, 0⟩) := by rw [(below_word w4 _).block _ lX4]; exact hX4
  have F5 : Fr rb s.pv s4.pv w (w4.alloc (wordObj (tokAt ts s4.i))).drew := F4'.trans (Fr.of_below (below_word w4 _))
  clear h4 hR4 hX4 F4' c0 c1 c2 c3 k0 k1 k2 n0 n1 m0 m1 m2
  generalize (w4.alloc (wordObj (tokAt ts s4.i))).drew = w5 at *
  have q0 := cell_of_row w5 w4.heap.size 0 _ _ _ hO5
  have q1 := cell_of_row w5 w4.heap.size 1 _ _ _ hO5
  have q2 := cell_of_row w5 w4.heap.size 2 _ _ _ hO5
  obtain ⟨c0, c1, c2, c3⟩ := h5.cells
  have hf := h5.free
  obtain ⟨⟨x0, x1, x2, x3, x4, x5⟩, xf⟩ := itm_cells hX5
  obtain ⟨⟨r0, r1, r2, r3, r4, r5⟩, rf⟩ := itm_cells hR5
  simp only [List.getElem?_toArray, List.getElem?_cons_zero, List.getElem?_cons_succ] at q0 q1 q2
  have ho' : (((tokAt ts s4.i).k : Int) != 111) = true := by rw [e4.out.1]; simp; omega
  have t1 := fun v j => set_far w5 rb w.heap.size 3 j v (by omega)
  have t2 := fun v j => set_far w5 rb (w.heap.size + 1 + 1) 3 j v (by omega)
  have HO : Hid _ := item_out (r := r) (x := ⟨[], (tokAt ts s.i).text == wAllow, 0, (tokAt ts s.i).pl, 0, 0⟩) (s := s) (w := w) h5.fails (F5.set l0 3 (.bool true)) (Nat.le_refl _) (by rw [Below.heap_setCell _ _ _ _ (by simp; omega)]; exact hR5) (by rw [e4.out.2.2.2, e4.out.1]; exact ⟨Nat.le_refl _, by omega⟩) (by rw [HR.out]; exact e4.out.1) (.inr ⟨by rw [HR.out], rfl⟩)
  clear ho
  go_wp2_with fail
  exact bodyPost_ret (v := itmV ⟨[], (tokAt ts s.i).text == wAllow, 0, (tokAt ts s.i).pl, 0, 0⟩) (by simp [results, Tryz.results61, go_sem, itmV, cell_set_same, cell_set_off, some_set, t1, r0, r1, r2, r3, r4, r5]) rfl HO.out
end Go.Proofs.YtfkdailfcmnjlaaGreatDoor

namespace Go.Proofs.YtfkdailfcmnjlaaGreatDoor
open Go Go.RowKit
set_option maxRecDepth 100000
attribute [local go_sem ↓] Go.wp_at_zero Go.wp_at_succ

set_option maxHeartbeats 8000000 in
theorem item_let_noeq {B rb gl cl : Nat} {ts : List Tok} {s : St} {w : World} {r : ItR} (h : RS B rb gl cl ts s w) (hB : B ≤ w.heap.size)
    (hgood : s.bad = false) (hw : isW (tokAt ts s.i) wLet = true)
    (ho : (tokAt ts (s.i + 1)).k = 111) (heq : ¬ isW (tokAt ts (s.i + 2)) [61] = true) (hr : r = ⟨false, s.i + 2, [], noItm⟩) :
    Calls Tryz.prog 61 #[.pointer (some ⟨rb, 0, none⟩)] w (LeftI B rb gl cl ts s w r) := by
  have e1 : Hid (seesB s.bad (tokAt ts s.i) wLet = true) := by show _ = _; unfold seesB; rw [hgood, hw]; rfl
  have hxt : (tokAt ts s.i).text = wLet := by unfold isW at hw; simp at hw; exact hw.2
  have e2 : Hid (seesB s.bad (tokAt ts s.i) wAllow = false) := by
    show _ = _; unfold seesB isW; rw [hxt]; simp [wAllow, wLet]
  have e3 : Hid (seesB s.bad (tokAt ts s.i) wDeny = false) := by
    show _ = _; unfold seesB isW; rw [hxt]; simp [wDeny, wLet]
  have hnx := sees_next h e1.out
  have HXT : Hid _ := hxt
  clear hw hxt
  have H2 : Hid _ := hgood
  have HR : Hid _ := hr
  have HI : Hid _ := heq
  clear heq
  clear hr hgood
  obtain ⟨c0, c1, c2, c3⟩ := h.cells
  obtain ⟨k0, k1, k2⟩ := next_word h
  have hi := h.hi
  have hn := h.hn
  have b1 : (0 : Int) ≤ (s.i : Int) := by omega
  have b2 : (s.i : Int) < (ts.length : Int) := by omega
  have l0 := World.block_lt_of_cell? w _ c0
  have l1 := World.block_lt_of_cell? w _ k0
  simp only at l0 l1
  have n0 : w.heap.size ≠ rb := by omega
  have n1 : w.heap.size + 1 ≠ rb := by omega
  have m0 : w.heap.size ≠ gl := by omega
  have m1 : w.heap.size + 1 ≠ gl := by omega
  clear c2 c3
  go_enter Tryz.func61, Tryz.ntmps61
  go_wp2_with fail
  go_region_held (fun w' => w'.cell? ⟨rb, 0, none⟩ = some (.slice (some ⟨gl, 0, none⟩) ts.length cl) ∧ w'.cell? ⟨rb, 1, none⟩ = some (.int .i64 s.i) ∧ w'.cell? ⟨gl, s.i * 3, none⟩ = some (.int .u8 (tokAt ts s.i).k) ∧ w'.cell? ⟨gl, s.i * 3 + 1, none⟩ = some (S (tokAt ts s.i).text) ∧ w'.cell? ⟨gl, s.i * 3 + 2, none⟩ = some (.int .i64 (tokAt ts s.i).pl)) (go_keep) (fail)
  rename_i hHeld
  clear hHeld
  obtain ⟨hbW, hR, hX⟩ := three_new w (itmObj noItm) (wordObj (tokAt ts s.i)) (itmObj ⟨[], (tokAt ts s.i).text == wAllow, 0, (tokAt ts s.i).pl, 0, 0⟩)
  have hW := h.below hbW
  clear c0 c1 k0 k1 k2 n0 n1 m0 m1
  go_wp2_with fail
  refine (sees_any hW wLet).mono ?_
  rintro e w1 ⟨rfl, hb1⟩
  have hW1 := hW.below hb1
  have hR1 : w1.heap[w.heap.size]? = some (itmObj noItm) := by rw [hb1.block _ (lt_of_get hR)]; exact hR
  have hX1 : w1.heap[w.heap.size + 1 + 1]? = some (itmObj ⟨[], (tokAt ts s.i).text == wAllow, 0, (tokAt ts s.i).pl, 0, 0⟩) := by rw [hb1.block _ (lt_of_get hX)]; exact hX
  have hbW1 : Below w.heap.size w w1 := hbW.trans (hb1.mono hbW.size)
  clear hbW hR hX hW hb1
  rw [e1.out]
  go_wp2_with fail
  refine (sees_any hW1 wAllow).mono ?_
  rintro e w2 ⟨rfl, hb2⟩
  have hW2 := hW1.below hb2
  have hR2 : w2.heap[w.heap.size]? = some (itmObj noItm) := by rw [hb2.block _ (lt_of_get hR1)]; exact hR1
  have hX2 : w2.heap[w.heap.size + 1 + 1]? = some (itmObj ⟨[], (tokAt ts s.i).text == wAllow, 0, (tokAt ts s.i).pl, 0, 0⟩) := by rw [hb2.block _ (lt_of_get hX1)]; exact hX1
  have hbW2 : Below w.heap.size w w2 := hbW1.trans (hb2.mono hbW1.size)
  clear hbW1 hR1 hX1 hW1 hb2
  rw [e2.out]
  go_wp2_with fail
  refine (sees_any hW2 wDeny).mono ?_
  rintro e w3 ⟨rfl, hb3⟩
  have hW3 := hW2.below hb3
  have hR3 : w3.heap[w.heap.size]? = some (itmObj noItm) := by rw [hb3.block _ (lt_of_get hR2)]; exact hR2
  have hX3 : w3.heap[w.heap.size + 1 + 1]? = some (itmObj ⟨[], (tokAt ts s.i).text == wAllow, 0, (tokAt ts s.i).pl, 0, 0⟩) := by rw [hb3.block _ (lt_of_get hX2)]; exact hX2
  have hbW3 : Below w.heap.size w w3 := hbW2.trans (hb3.mono hbW2.size)
  clear hbW2 hR2 hX2 hW2 hb3
  rw [e3.out]
  obtain ⟨c0, c1, c2, c3⟩ := hW3.cells
  have hf := hW3.free
  obtain ⟨⟨r0, r1, r2, r3, r4, r5⟩, rf⟩ := itm_cells hR3
  obtain ⟨⟨x0, x1, x2, x3, x4, x5⟩, xf⟩ := itm_cells hX3
  have hx' : (s.i : Int) + 1 ≤ 2000 := by omega
  have s1 := fun v j => set_far w3 rb w.heap.size 1 j v (by omega)
  have s2 := fun v j => set_far w3 rb (w.heap.size + 1 + 1) 1 j v (by omega)
  go_wp2_with fail
  have h4 := hW3.next hnx.1
  have F4 : Fr rb s.pv s.pv w (w3.setCell ⟨rb, 1, none⟩ (.int .i64 ((s.i : Int) + 1))) := (Fr.of_below hbW3).set l0 _ _
  have hR4 : (w3.setCell ⟨rb, 1, none⟩ (.int .i64 ((s.i : Int) + 1))).heap[w.heap.size]? = some (itmObj noItm) := by rw [Below.heap_setCell _ _ _ _ (by simp; omega)]; exact hR3
  have hX4 : (w3.setCell ⟨rb, 1, none⟩ (.int .i64 ((s.i : Int) + 1))).heap[w.heap.size + 1 + 1]? = some (itmObj ⟨[], (tokAt ts s.i).text == wAllow, 0, (tokAt ts s.i).pl, 0, 0⟩) := by rw [Below.heap_setCell _ _ _ _ (by simp; omega)]; exact hX3
  clear hW3 hbW3 hR3 hX3 c0 c1 c2 c3 hf r0 r1 r2 r3 r4 r5 rf x0 x1 x2 x3 x4 x5 xf s1 s2
  generalize w3.setCell ⟨rb, 1, none⟩ (.int .i64 ((s.i : Int) + 1)) = w4 at *
  obtain ⟨s4, hs4⟩ : ∃ s4 : St, s4 = { s with i := s.i + 1 } := ⟨_, rfl⟩
  rw [← hs4] at h4
  have HS4 : Hid _ := hs4
  have e4 : Hid (s4.i = s.i + 1 ∧ s4.bad = s.bad ∧ s4.pv = s.pv ∧ s4.ps = s.ps) := by rw [hs4]; exact ⟨rfl, rfl, rfl, rfl⟩
  have F4' : Fr rb s.pv s4.pv w w4 := by rw [e4.out.2.2.1]; exact F4
  clear hs4 F4
  obtain ⟨c0, c1, c2, c3⟩ := h4.cells
  obtain ⟨k0, k1, k2⟩ := next_word h4
  have hi4 := h4.hi
  have b3 : (0 : Int) ≤ (s4.i : Int) := by omega
  have b4 : (s4.i : Int) < (ts.length : Int) := by omega
  have n0 := World.new_ne w4 _ c0
  have n1 := World.new_ne w4 _ c1
  have m0 := World.new_ne w4 _ k0
  have m1 := World.new_ne w4 _ k1
  have m2 := World.new_ne w4 _ k2
  have hsz4 := F4'.size
  have lR4 := lt_of_get hR4
  have lX4 := lt_of_get hX4
  go_region_held (fun w' => w'.cell? ⟨rb, 0, none⟩ = some (.slice (some ⟨gl, 0, none⟩) ts.length cl) ∧ w'.cell? ⟨rb, 1, none⟩ = some (.int .i64 s4.i) ∧ w'.cell? ⟨gl, s4.i * 3, none⟩ = some (.int .u8 (tokAt ts s4.i).k) ∧ w'.cell? ⟨gl, s4.i * 3 + 1, none⟩ = some (S (tokAt ts s4.i).text) ∧ w'.cell? ⟨gl, s4.i * 3 + 2, none⟩ = some (.int .i64 (tokAt ts s4.i).pl)) (go_keep) (fail)
  rename_i hHeld
  clear hHeld
  have h5 := h4.below (below_word w4 (wordObj (tokAt ts s4.i)))
  have hO5 : ((w4.alloc (wordObj (tokAt ts s4.i))).drew).heap[w4.heap.size]? = some (wordObj (tokAt ts s4.i)) := heap_alloc_new w4 _
  have hR5 : ((w4.alloc (wordObj (tokAt ts s4.i))).drew).heap[w.heap.size]? = some (itmObj noItm) := by rw [(below_word w4 _).block _ lR4]; exact hR4
  have hX5 : ((w4.alloc (wordObj (tokAt ts s4.i))).drew).heap[w.heap.size + 1 + 1]? = some (itmObj ⟨[], (tokAt ts s.i).text == wAllow, 0, (tokAt ts s.i).pl, 0, 0⟩) := by rw [(below_word w4 _).block _ lX4]; exact hX4
  have F5 : Fr rb s.pv s4.pv w (w4.alloc (wordObj (tokAt ts s4.i))).drew := F4'.trans (Fr.of_below (below_word w4 _))
  clear h4 hR4 hX4 F4' c0 c1 c2 c3 k0 k1 k2 n0 n1 m0 m1 m2
  generalize (w4.alloc (wordObj (tokAt ts s4.i))).drew = w5 at *
  have q0 := cell_of_row w5 w4.heap.size 0 _ _ _ hO5
  have q1 := cell_of_row w5 w4.heap.size 1 _ _ _ hO5
  have q2 := cell_of_row w5 w4.heap.size 2 _ _ _ hO5
  obtain ⟨c0, c1, c2, c3⟩ := h5.cells
  have hf := h5.free
  obtain ⟨⟨x0, x1, x2, x3, x4, x5⟩, xf⟩ := itm_cells hX5
  obtain ⟨⟨r0, r1, r2, r3, r4, r5⟩, rf⟩ := itm_cells hR5
  simp only [List.getElem?_toArray, List.getElem?_cons_zero, List.getElem?_cons_succ] at q0 q1 q2
  have ho' : (((tokAt ts s4.i).k : Int) != 111) = false := by rw [e4.out.1]; simp; omega
  have hnx2 : s4.i + 1 < ts.length := by
    rcases Nat.lt_or_ge (s4.i + 1) ts.length with h3 | h3
    · exact h3
    · have h4 : (tokAt ts s4.i).k = 101 := h5.fin s4.i (by omega)
      rw [e4.out.1] at h4; omega
  have u1 : ∀ (W : World) (i j : Nat) (v : Value), (W.setCell ⟨w.heap.size + 1 + 1, i, none⟩ v).cell? ⟨rb, j, none⟩ = W.cell? ⟨rb, j, none⟩ := fun W i j v => set_far W _ rb i j v (by omega)
  have u2 : ∀ (W : World) (i j : Nat) (v : Value), (W.setCell ⟨w.heap.size + 1 + 1, i, none⟩ v).cell? ⟨w4.heap.size, j, none⟩ = W.cell? ⟨w4.heap.size, j, none⟩ := fun W i j v => set_far W _ _ i j v (by omega)
  have u3 : ∀ (W : World) (v : Value), (W.setCell ⟨w.heap.size + 1 + 1, 0, none⟩ v).cell? ⟨w.heap.size + 1 + 1, 4, none⟩ = W.cell? ⟨w.heap.size + 1 + 1, 4, none⟩ := fun W v => cell_set_off W _ 0 4 v (by decide)
  have hx4 : (s4.i : Int) + 1 ≤ 2000 := by omega
  have h6 := h5.but hX5 (w' := ((w5.setCell ⟨w.heap.size + 1 + 1, 0, none⟩ (S (tokAt ts s4.i).text)).setCell ⟨w.heap.size + 1 + 1, 4, none⟩ (.int .i64 (tokAt ts s4.i).pl))) (fun k hk => by rw [Below.heap_setCell _ _ _ _ hk, Below.heap_setCell _ _ _ _ hk])
  have hX6 : ((w5.setCell ⟨w.heap.size + 1 + 1, 0, none⟩ (S (tokAt ts s4.i).text)).setCell ⟨w.heap.size + 1 + 1, 4, none⟩ (.int .i64 (tokAt ts s4.i).pl)).heap[w.heap.size + 1 + 1]? = some (itmObj ⟨(tokAt ts s4.i).text, (tokAt ts s.i).text == wAllow, 0, (tokAt ts s.i).pl, (tokAt ts s4.i).pl, 0⟩) := by
    rw [heap_setCell_same _ _ 4 _ _ _ (heap_setCell_same w5 _ 0 _ _ _ hX5)]; simp
  have hR6 : ((w5.setCell ⟨w.heap.size + 1 + 1, 0, none⟩ (S (tokAt ts s4.i).text)).setCell ⟨w.heap.size + 1 + 1, 4, none⟩ (.int .i64 (tokAt ts s4.i).pl)).heap[w.heap.size]? = some (itmObj noItm) := by rw [Below.heap_setCell _ _ _ _ (by simp; omega), Below.heap_setCell _ _ _ _ (by simp; omega)]; exact hR5
  have F6 : Fr rb s.pv s4.pv w ((w5.setCell ⟨w.heap.size + 1 + 1, 0, none⟩ (S (tokAt ts s4.i).text)).setCell ⟨w.heap.size + 1 + 1, 4, none⟩ (.int .i64 (tokAt ts s4.i).pl)) := (F5.new (by omega) _ _).new (by omega) _ _
  have h7 := h6.next hnx2
  have hX7 : (((w5.setCell ⟨w.heap.size + 1 + 1, 0, none⟩ (S (tokAt ts s4.i).text)).setCell ⟨w.heap.size + 1 + 1, 4, none⟩ (.int .i64 (tokAt ts s4.i).pl)).setCell ⟨rb, 1, none⟩ (.int .i64 ((s4.i : Int) + 1))).heap[w.heap.size + 1 + 1]? = some (itmObj ⟨(tokAt ts s4.i).text, (tokAt ts s.i).text == wAllow, 0, (tokAt ts s.i).pl, (tokAt ts s4.i).pl, 0⟩) := by rw [Below.heap_setCell _ _ _ _ (by simp; omega)]; exact hX6
  have hR7 : (((w5.setCell ⟨w.heap.size + 1 + 1, 0, none⟩ (S (tokAt ts s4.i).text)).setCell ⟨w.heap.size + 1 + 1, 4, none⟩ (.int .i64 (tokAt ts s4.i).pl)).setCell ⟨rb, 1, none⟩ (.int .i64 ((s4.i : Int) + 1))).heap[w.heap.size]? = some (itmObj noItm) := by rw [Below.heap_setCell _ _ _ _ (by simp; omega)]; exact hR6
  have F7 : Fr rb s.pv s4.pv w (((w5.setCell ⟨w.heap.size + 1 + 1, 0, none⟩ (S (tokAt ts s4.i).text)).setCell ⟨w.heap.size + 1 + 1, 4, none⟩ (.int .i64 (tokAt ts s4.i).pl)).setCell ⟨rb, 1, none⟩ (.int .i64 ((s4.i : Int) + 1))) := F6.set l0 _ _
  have HH : Hid _ := And.intro h7 (And.intro hX7 (And.intro hR7 F7))
  clear ho h6 hX6 hR6 F6 h7 hX7 hR7 F7
  go_wp2_with fail
  obtain ⟨h7, hX7, hR7, F7⟩ := HH.out
  clear HH h5 hX5 hR5 hO5 F5 c0 c1 c2 c3 hf q0 q1 q2 x0 x1 x2 x3 x4 x5 xf r0 r1 r2 r3 r4 r5 rf u1 u2 u3
  generalize (((w5.setCell ⟨w.heap.size + 1 + 1, 0, none⟩ (S (tokAt ts s4.i).text)).setCell ⟨w.heap.size + 1 + 1, 4, none⟩ (.int .i64 (tokAt ts s4.i).pl)).setCell ⟨rb, 1, none⟩ (.int .i64 ((s4.i : Int) + 1))) = w6 at *
  refine (must_any h7 [61]).mono ?_
  rintro e w7 ⟨rfl, h8, F8⟩
  have e5 : mustSt ts { s4 with i := s4.i + 1 } [61] = { s4 with i := s4.i + 1, bad := true } := by
    unfold mustSt seesB; simp only; rw [e4.out.2.1, H2.out, if_neg (by rw [e4.out.1]; simpa using HI.out)]
  rw [e5] at h8
  have hR8 := F8.far hR7 (by omega) (own_ne h7 hR7 (by simp))
  have hX8 := F8.far hX7 (by omega) (own_ne h7 hX7 (by simp))
  have F9 : Fr rb s.pv s4.pv w w7 := F7.trans F8
  have hs7 := F9.size
  clear e5 F7 F8 hR7 hX7 h7
  obtain ⟨c0, c1, c2, c3⟩ := h8.cells
  obtain ⟨⟨x0, x1, x2, x3, x4, x5⟩, xf⟩ := itm_cells hX8
  obtain ⟨⟨r0, r1, r2, r3, r4, r5⟩, rf⟩ := itm_cells hR8
  have HO : Hid _ := item_out (r := r) (x := ⟨(tokAt ts s4.i).text, (tokAt ts s.i).text == wAllow, 0, (tokAt ts s.i).pl, (tokAt ts s4.i).pl, 0⟩) (s := s) (w := w) h8 F9 (Nat.le_refl _) hR8 (by simp only; rw [e4.out.2.2.2, e4.out.1]; exact ⟨Nat.le_refl _, by omega⟩) (by rw [HR.out]; simp only; rw [e4.out.1]) (.inr ⟨by rw [HR.out], rfl⟩)
  go_wp2_with fail
  exact bodyPost_ret (v := itmV ⟨(tokAt ts s4.i).text, (tokAt ts s.i).text == wAllow, 0, (tokAt ts s.i).pl, (tokAt ts s4.i).pl, 0⟩) (by simp [results, Tryz.results61, go_sem, itmV, cell_set_same, cell_set_off, some_set, r0, r1, r2, r3, r4, r5]) rfl HO.out
end Go.Proofs.YtfkdailfcmnjlaaGreatDoor

namespace Go.Proofs.YtfkdailfcmnjlaaGreatDoor
open Go Go.RowKit
set_option maxRecDepth 100000
attribute [local go_sem ↓] Go.wp_at_zero Go.wp_at_succ

set_option maxHeartbeats 8000000 in
theorem item_let {f : Nat} {B rb gl cl : Nat} {ts : List Tok} {s : St} {w : World} {r : ItR} (h : RS B rb gl cl ts s w) (hts : ∀ t ∈ ts, TokOK t) (hB : B ≤ w.heap.size)
    (hgood : s.bad = false) (hnum : NumsOK s) (hw : isW (tokAt ts s.i) wLet = true)
    (ho : (tokAt ts (s.i + 1)).k = 111) (heq : isW (tokAt ts (s.i + 2)) [61] = true) (hr : itemTail f ts (s.i + 3) (s.ps.map toPt) ⟨(tokAt ts (s.i + 1)).text, (tokAt ts s.i).text == wAllow, 0, (tokAt ts s.i).pl, (tokAt ts (s.i + 1)).pl, 0⟩ = some r) :
    Calls Tryz.prog 61 #[.pointer (some ⟨rb, 0, none⟩)] w (LeftI B rb gl cl ts s w r) := by
  have e1 : Hid (seesB s.bad (tokAt ts s.i) wLet = true) := by show _ = _; unfold seesB; rw [hgood, hw]; rfl
  have hxt : (tokAt ts s.i).text = wLet := by unfold isW at hw; simp at hw; exact hw.2
  have e2 : Hid (seesB s.bad (tokAt ts s.i) wAllow = false) := by
    show _ = _; unfold seesB isW; rw [hxt]; simp [wAllow, wLet]
  have e3 : Hid (seesB s.bad (tokAt ts s.i) wDeny = false) := by
    show _ = _; unfold seesB isW; rw [hxt]; simp [wDeny, wLet]
  have hnx := sees_next h e1.out
  have HXT : Hid _ := hxt
  clear hw hxt
  have H2 : Hid _ := hgood
  have HR : Hid _ := hr
  have HI : Hid _ := heq
  clear heq
  clear hr hgood
  obtain ⟨c0, c1, c2, c3⟩ := h.cells
  obtain ⟨k0, k1, k2⟩ := next_word h
  have hi := h.hi
  have hn := h.hn
  have b1 : (0 : Int) ≤ (s.i : Int) := by omega
  have b2 : (s.i : Int) < (ts.length : Int) := by omega
  have l0 := World.block_lt_of_cell? w _ c0
  have l1 := World.block_lt_of_cell? w _ k0
  simp only at l0 l1
  have n0 : w.heap.size ≠ rb := by omega
  have n1 : w.heap.size + 1 ≠ rb := by omega
  have m0 : w.heap.size ≠ gl := by omega
  have m1 : w.heap.size + 1 ≠ gl := by omega
  clear c2 c3
  go_enter Tryz.func61, Tryz.ntmps61
  go_wp2_with fail
  go_region_held (fun w' => w'.cell? ⟨rb, 0, none⟩ = some (.slice (some ⟨gl, 0, none⟩) ts.length cl) ∧ w'.cell? ⟨rb, 1, none⟩ = some (.int .i64 s.i) ∧ w'.cell? ⟨gl, s.i * 3, none⟩ = some (.int .u8 (tokAt ts s.i).k) ∧ w'.cell? ⟨gl, s.i * 3 + 1, none⟩ = some (S (tokAt ts s.i).text) ∧ w'.cell? ⟨gl, s.i * 3 + 2, none⟩ = some (.int .i64 (tokAt ts s.i).pl)) (go_keep) (fail)
  rename_i hHeld
  clear hHeld
  obtain ⟨hbW, hR, hX⟩ := three_new w (itmObj noItm) (wordObj (tokAt ts s.i)) (itmObj ⟨[], (tokAt ts s.i).text == wAllow, 0, (tokAt ts s.i).pl, 0, 0⟩)
  have hW := h.below hbW
  clear c0 c1 k0 k1 k2 n0 n1 m0 m1
  go_wp2_with fail
  refine (sees_any hW wLet).mono ?_
  rintro e w1 ⟨rfl, hb1⟩
  have hW1 := hW.below hb1
  have hR1 : w1.heap[w.heap.size]? = some (itmObj noItm) := by rw [hb1.block _ (lt_of_get hR)]; exact hR
  have hX1 : w1.heap[w.heap.size + 1 + 1]? = some (itmObj ⟨[], (tokAt ts s.i).text == wAllow, 0, (tokAt ts s.i).pl, 0, 0⟩) := by rw [hb1.block _ (lt_of_get hX)]; exact hX
  have hbW1 : Below w.heap.size w w1 := hbW.trans (hb1.mono hbW.size)
  clear hbW hR hX hW hb1
  rw [e1.out]
  go_wp2_with fail
  refine (sees_any hW1 wAllow).mono ?_
  rintro e w2 ⟨rfl, hb2⟩
  have hW2 := hW1.below hb2
  have hR2 : w2.heap[w.heap.size]? = some (itmObj noItm) := by rw [hb2.block _ (lt_of_get hR1)]; exact hR1
  have hX2 : w2.heap[w.heap.size + 1 + 1]? = some (itmObj ⟨[], (tokAt ts s.i).text == wAllow, 0, (tokAt ts s.i).pl, 0, 0⟩) := by rw [hb2.block _ (lt_of_get hX1)]; exact hX1
  have hbW2 : Below w.heap.size w w2 := hbW1.trans (hb2.mono hbW1.size)
  clear hbW1 hR1 hX1 hW1 hb2
  rw [e2.out]
  go_wp2_with fail
  refine (sees_any hW2 wDeny).mono ?_
  rintro e w3 ⟨rfl, hb3⟩
  have hW3 := hW2.below hb3
  have hR3 : w3.heap[w.heap.size]? = some (itmObj noItm) := by rw [hb3.block _ (lt_of_get hR2)]; exact hR2
  have hX3 : w3.heap[w.heap.size + 1 + 1]? = some (itmObj ⟨[], (tokAt ts s.i).text == wAllow, 0, (tokAt ts s.i).pl, 0, 0⟩) := by rw [hb3.block _ (lt_of_get hX2)]; exact hX2
  have hbW3 : Below w.heap.size w w3 := hbW2.trans (hb3.mono hbW2.size)
  clear hbW2 hR2 hX2 hW2 hb3
  rw [e3.out]
  obtain ⟨c0, c1, c2, c3⟩ := hW3.cells
  have hf := hW3.free
  obtain ⟨⟨r0, r1, r2, r3, r4, r5⟩, rf⟩ := itm_cells hR3
  obtain ⟨⟨x0, x1, x2, x3, x4, x5⟩, xf⟩ := itm_cells hX3
  have hx' : (s.i : Int) + 1 ≤ 2000 := by omega
  have s1 := fun v j => set_far w3 rb w.heap.size 1 j v (by omega)
  have s2 := fun v j => set_far w3 rb (w.heap.size + 1 + 1) 1 j v (by omega)
  go_wp2_with fail
  have h4 := hW3.next hnx.1
  have F4 : Fr rb s.pv s.pv w (w3.setCell ⟨rb, 1, none⟩ (.int .i64 ((s.i : Int) + 1))) := (Fr.of_below hbW3).set l0 _ _
  have hR4 : (w3.setCell ⟨rb, 1, none⟩ (.int .i64 ((s.i : Int) + 1))).heap[w.heap.size]? = some (itmObj noItm) := by rw [Below.heap_setCell _ _ _ _ (by simp; omega)]; exact hR3
  have hX4 : (w3.setCell ⟨rb, 1, none⟩ (.int .i64 ((s.i : Int) + 1))).heap[w.heap.size + 1 + 1]? = some (itmObj ⟨[], (tokAt ts s.i).text == wAllow, 0, (tokAt ts s.i).pl, 0, 0⟩) := by rw [Below.heap_setCell _ _ _ _ (by simp; omega)]; exact hX3
  clear hW3 hbW3 hR3 hX3 c0 c1 c2 c3 hf r0 r1 r2 r3 r4 r5 rf x0 x1 x2 x3 x4 x5 xf s1 s2
  generalize w3.setCell ⟨rb, 1, none⟩ (.int .i64 ((s.i : Int) + 1)) = w4 at *
  obtain ⟨s4, hs4⟩ : ∃ s4 : St, s4 = { s with i := s.i + 1 } := ⟨_, rfl⟩
  rw [← hs4] at h4
  have HS4 : Hid _ := hs4
  have e4 : Hid (s4.i = s.i + 1 ∧ s4.bad = s.bad ∧ s4.pv = s.pv ∧ s4.ps = s.ps) := by rw [hs4]; exact ⟨rfl, rfl, rfl, rfl⟩
  have F4' : Fr rb s.pv s4.pv w w4 := by rw [e4.out.2.2.1]; exact F4
  clear hs4 F4
  obtain ⟨c0, c1, c2, c3⟩ := h4.cells
  obtain ⟨k0, k1, k2⟩ := next_word h4
  have hi4 := h4.hi
  have b3 : (0 : Int) ≤ (s4.i : Int) := by omega
  have b4 : (s4.i : Int) < (ts.length : Int) := by omega
  have n0 := World.new_ne w4 _ c0
  have n1 := World.new_ne w4 _ c1
  have m0 := World.new_ne w4 _ k0
  have m1 := World.new_ne w4 _ k1
  have m2 := World.new_ne w4 _ k2
  have hsz4 := F4'.size
  have lR4 := lt_of_get hR4
  have lX4 := lt_of_get hX4
  go_region_held (fun w' => w'.cell? ⟨rb, 0, none⟩ = some (.slice (some ⟨gl, 0, none⟩) ts.length cl) ∧ w'.cell? ⟨rb, 1, none⟩ = some (.int .i64 s4.i) ∧ w'.cell? ⟨gl, s4.i * 3, none⟩ = some (.int .u8 (tokAt ts s4.i).k) ∧ w'.cell? ⟨gl, s4.i * 3 + 1, none⟩ = some (S (tokAt ts s4.i).text) ∧ w'.cell? ⟨gl, s4.i * 3 + 2, none⟩ = some (.int .i64 (tokAt ts s4.i).pl)) (go_keep) (fail)
  rename_i hHeld
  clear hHeld
  have h5 := h4.below (below_word w4 (wordObj (tokAt ts s4.i)))
  have hO5 : ((w4.alloc (wordObj (tokAt ts s4.i))).drew).heap[w4.heap.size]? = some (wordObj (tokAt ts s4.i)) := heap_alloc_new w4 _
  have hR5 : ((w4.alloc (wordObj (tokAt ts s4.i))).drew).heap[w.heap.size]? = some (itmObj noItm) := by rw [(below_word w4 _).block _ lR4]; exact hR4
  have hX5 : ((w4.alloc (wordObj (tokAt ts s4.i))).drew).heap[w.heap.size + 1 + 1]? = some (itmObj ⟨[], (tokAt ts s.i).text == wAllow, 0, (tokAt ts s.i).pl, 0, 0⟩) := by rw [(below_word w4 _).block _ lX4]; exact hX4
  have F5 : Fr rb s.pv s4.pv w (w4.alloc (wordObj (tokAt ts s4.i))).drew := F4'.trans (Fr.of_below (below_word w4 _))
  clear h4 hR4 hX4 F4' c0 c1 c2 c3 k0 k1 k2 n0 n1 m0 m1 m2
  generalize (w4.alloc (wordObj (tokAt ts s4.i))).drew = w5 at *
  have q0 := cell_of_row w5 w4.heap.size 0 _ _ _ hO5
  have q1 := cell_of_row w5 w4.heap.size 1 _ _ _ hO5
  have q2 := cell_of_row w5 w4.heap.size 2 _ _ _ hO5
  obtain ⟨c0, c1, c2, c3⟩ := h5.cells
  have hf := h5.free
  obtain ⟨⟨x0, x1, x2, x3, x4, x5⟩, xf⟩ := itm_cells hX5
  obtain ⟨⟨r0, r1, r2, r3, r4, r5⟩, rf⟩ := itm_cells hR5
  simp only [List.getElem?_toArray, List.getElem?_cons_zero, List.getElem?_cons_succ] at q0 q1 q2
  have ho' : (((tokAt ts s4.i).k : Int) != 111) = false := by rw [e4.out.1]; simp; omega
  have hnx2 : s4.i + 1 < ts.length := by
    rcases Nat.lt_or_ge (s4.i + 1) ts.length with h3 | h3
    · exact h3
    · have h4 : (tokAt ts s4.i).k = 101 := h5.fin s4.i (by omega)
      rw [e4.out.1] at h4; omega
  have u1 : ∀ (W : World) (i j : Nat) (v : Value), (W.setCell ⟨w.heap.size + 1 + 1, i, none⟩ v).cell? ⟨rb, j, none⟩ = W.cell? ⟨rb, j, none⟩ := fun W i j v => set_far W _ rb i j v (by omega)
  have u2 : ∀ (W : World) (i j : Nat) (v : Value), (W.setCell ⟨w.heap.size + 1 + 1, i, none⟩ v).cell? ⟨w4.heap.size, j, none⟩ = W.cell? ⟨w4.heap.size, j, none⟩ := fun W i j v => set_far W _ _ i j v (by omega)
  have u3 : ∀ (W : World) (v : Value), (W.setCell ⟨w.heap.size + 1 + 1, 0, none⟩ v).cell? ⟨w.heap.size + 1 + 1, 4, none⟩ = W.cell? ⟨w.heap.size + 1 + 1, 4, none⟩ := fun W v => cell_set_off W _ 0 4 v (by decide)
  have hx4 : (s4.i : Int) + 1 ≤ 2000 := by omega
  have h6 := h5.but hX5 (w' := ((w5.setCell ⟨w.heap.size + 1 + 1, 0, none⟩ (S (tokAt ts s4.i).text)).setCell ⟨w.heap.size + 1 + 1, 4, none⟩ (.int .i64 (tokAt ts s4.i).pl))) (fun k hk => by rw [Below.heap_setCell _ _ _ _ hk, Below.heap_setCell _ _ _ _ hk])
  have hX6 : ((w5.setCell ⟨w.heap.size + 1 + 1, 0, none⟩ (S (tokAt ts s4.i).text)).setCell ⟨w.heap.size + 1 + 1, 4, none⟩ (.int .i64 (tokAt ts s4.i).pl)).heap[w.heap.size + 1 + 1]? = some (itmObj ⟨(tokAt ts s4.i).text, (tokAt ts s.i).text == wAllow, 0, (tokAt ts s.i).pl, (tokAt ts s4.i).pl, 0⟩) := by
    rw [heap_setCell_same _ _ 4 _ _ _ (heap_setCell_same w5 _ 0 _ _ _ hX5)]; simp
  have hR6 : ((w5.setCell ⟨w.heap.size + 1 + 1, 0, none⟩ (S (tokAt ts s4.i).text)).setCell ⟨w.heap.size + 1 + 1, 4, none⟩ (.int .i64 (tokAt ts s4.i).pl)).heap[w.heap.size]? = some (itmObj noItm) := by rw [Below.heap_setCell _ _ _ _ (by simp; omega), Below.heap_setCell _ _ _ _ (by simp; omega)]; exact hR5
  have F6 : Fr rb s.pv s4.pv w ((w5.setCell ⟨w.heap.size + 1 + 1, 0, none⟩ (S (tokAt ts s4.i).text)).setCell ⟨w.heap.size + 1 + 1, 4, none⟩ (.int .i64 (tokAt ts s4.i).pl)) := (F5.new (by omega) _ _).new (by omega) _ _
  have h7 := h6.next hnx2
  have hX7 : (((w5.setCell ⟨w.heap.size + 1 + 1, 0, none⟩ (S (tokAt ts s4.i).text)).setCell ⟨w.heap.size + 1 + 1, 4, none⟩ (.int .i64 (tokAt ts s4.i).pl)).setCell ⟨rb, 1, none⟩ (.int .i64 ((s4.i : Int) + 1))).heap[w.heap.size + 1 + 1]? = some (itmObj ⟨(tokAt ts s4.i).text, (tokAt ts s.i).text == wAllow, 0, (tokAt ts s.i).pl, (tokAt ts s4.i).pl, 0⟩) := by rw [Below.heap_setCell _ _ _ _ (by simp; omega)]; exact hX6
  have hR7 : (((w5.setCell ⟨w.heap.size + 1 + 1, 0, none⟩ (S (tokAt ts s4.i).text)).setCell ⟨w.heap.size + 1 + 1, 4, none⟩ (.int .i64 (tokAt ts s4.i).pl)).setCell ⟨rb, 1, none⟩ (.int .i64 ((s4.i : Int) + 1))).heap[w.heap.size]? = some (itmObj noItm) := by rw [Below.heap_setCell _ _ _ _ (by simp; omega)]; exact hR6
  have F7 : Fr rb s.pv s4.pv w (((w5.setCell ⟨w.heap.size + 1 + 1, 0, none⟩ (S (tokAt ts s4.i).text)).setCell ⟨w.heap.size + 1 + 1, 4, none⟩ (.int .i64 (tokAt ts s4.i).pl)).setCell ⟨rb, 1, none⟩ (.int .i64 ((s4.i : Int) + 1))) := F6.set l0 _ _
  have HH : Hid _ := And.intro h7 (And.intro hX7 (And.intro hR7 F7))
  clear ho h6 hX6 hR6 F6 h7 hX7 hR7 F7
  go_wp2_with fail
  obtain ⟨h7, hX7, hR7, F7⟩ := HH.out
  clear HH h5 hX5 hR5 hO5 F5 c0 c1 c2 c3 hf q0 q1 q2 x0 x1 x2 x3 x4 x5 xf r0 r1 r2 r3 r4 r5 rf u1 u2 u3
  generalize (((w5.setCell ⟨w.heap.size + 1 + 1, 0, none⟩ (S (tokAt ts s4.i).text)).setCell ⟨w.heap.size + 1 + 1, 4, none⟩ (.int .i64 (tokAt ts s4.i).pl)).setCell ⟨rb, 1, none⟩ (.int .i64 ((s4.i : Int) + 1))) = w6 at *
  refine (must_any h7 [61]).mono ?_
  rintro e w7 ⟨rfl, h8, F8⟩
  have e5 : mustSt ts { s4 with i := s4.i + 1 } [61] = { s4 with i := s4.i + 2 } := by
    unfold mustSt seesB; simp only; rw [e4.out.2.1, H2.out, if_pos (by rw [e4.out.1]; simpa using HI.out)]
  rw [e5] at h8
  have hR5 := F8.far hR7 (by omega) (own_ne h7 hR7 (by simp))
  have hX5 := F8.far hX7 (by omega) (own_ne h7 hX7 (by simp))
  have F6 : Fr rb s.pv s4.pv w w7 := F7.trans F8
  have hs5 := F6.size
  clear e5 F7 F8 hR7 hX7 h7
  have h5 := h8
  clear h8
  obtain ⟨c0, c1, c2, c3⟩ := h5.cells
  simp only at c3
  rw [e4.out.2.1, H2.out] at c3
  go_wp2_with fail
  obtain ⟨a, hPa, hra⟩ := tail_split HR.out
  have HA : Hid _ := hra
  clear hra
  refine (((reads_all f) B rb gl cl ts { s4 with i := s4.i + 2 } w7 a h5 hts (by omega)).1 (.inr ⟨by simp only; rw [e4.out.2.1]; exact H2.out, by unfold NumsOK; simp only; rw [e4.out.2.2.2]; exact hnum, by simp only; rw [e4.out.1, e4.out.2.2.2]; exact hPa⟩)).mono ?_
  rintro e w6' hL
  obtain ⟨s6, n6, rfl, h6, F7, g6, i6, st6, top6⟩ := left_st hL
  have hR6 := F7.far hR5 (by omega) (own_ne h5 hR5 (by simp))
  have hX6 := F7.far hX5 (by omega) (own_ne h5 hX5 (by simp))
  have F8 : Fr rb s.pv s6.pv w w6' := F6.trans F7
  have hs6 := F8.size
  have g6' : s.ps.length ≤ s6.ps.length ∧ s6.ps.length + (s.i + 3) ≤ s.ps.length + s6.i := by
    simp only at g6; rw [e4.out.2.2.2, e4.out.1] at g6; omega
  clear hL hPa F7 F6 h5 hR5 hX5 c0 c1 c2 c3 g6
  obtain ⟨⟨x0, x1, x2, x3, x4, x5⟩, xf⟩ := itm_cells hX6
  go_wp2_with fail
  have h7 := h6.but hX6 (w' := w6'.setCell ⟨w.heap.size + 1 + 1, 2, none⟩ (.int .i64 n6)) (fun k hk => Below.heap_setCell _ _ _ _ hk)
  have hX7 : (w6'.setCell ⟨w.heap.size + 1 + 1, 2, none⟩ (.int .i64 n6)).heap[w.heap.size + 1 + 1]? = some (itmObj ⟨(tokAt ts s4.i).text, (tokAt ts s.i).text == wAllow, n6, (tokAt ts s.i).pl, (tokAt ts s4.i).pl, 0⟩) := by rw [heap_setCell_same w6' _ 2 _ _ _ hX6]; simp
  have hR7 : (w6'.setCell ⟨w.heap.size + 1 + 1, 2, none⟩ (.int .i64 n6)).heap[w.heap.size]? = some (itmObj noItm) := by rw [Below.heap_setCell _ _ _ _ (by simp; omega)]; exact hR6
  have F9 : Fr rb s.pv s6.pv w (w6'.setCell ⟨w.heap.size + 1 + 1, 2, none⟩ (.int .i64 n6)) := F8.new (by omega) _ _
  clear h6 hX6 hR6 F8 x0 x1 x2 x3 x4 x5 xf hs6
  generalize w6'.setCell ⟨w.heap.size + 1 + 1, 2, none⟩ (.int .i64 n6) = w9 at *
  have hs7 := F9.size
  refine (must_any h7 [59]).mono ?_
  rintro e w8 ⟨rfl, h8, F10⟩
  have hR8 := F10.far hR7 (by omega) (own_ne h7 hR7 (by simp))
  have hX8 := F10.far hX7 (by omega) (own_ne h7 hX7 (by simp))
  obtain ⟨p8, v8, j8⟩ := must_ps ts s6 [59]
  have F11 : Fr rb s.pv (mustSt ts s6 [59]).pv w w8 := v8.symm ▸ F9.trans F10
  have hs8 := F11.size
  obtain ⟨ba, bc, hpv⟩ := h8.pv_form
  obtain ⟨c0, c1, c2, c3⟩ := h8.cells
  rw [hpv] at c2
  have HV : Hid _ := hpv
  have hlen : (mustSt ts s6 [59]).ps.length ≤ 2000 := by have := h8.few; have := h8.hi; omega
  have h9 := h8.but hX8 (w' := w8.setCell ⟨w.heap.size + 1 + 1, 5, none⟩ (.int .i64 (mustSt ts s6 [59]).ps.length)) (fun k hk => Below.heap_setCell _ _ _ _ hk)
  have hX9 : (w8.setCell ⟨w.heap.size + 1 + 1, 5, none⟩ (.int .i64 (mustSt ts s6 [59]).ps.length)).heap[w.heap.size + 1 + 1]? = some (itmObj ⟨(tokAt ts s4.i).text, (tokAt ts s.i).text == wAllow, n6, (tokAt ts s.i).pl, (tokAt ts s4.i).pl, (mustSt ts s6 [59]).ps.length⟩) := by rw [heap_setCell_same w8 _ 5 _ _ _ hX8]; simp
  have hR9 : (w8.setCell ⟨w.heap.size + 1 + 1, 5, none⟩ (.int .i64 (mustSt ts s6 [59]).ps.length)).heap[w.heap.size]? = some (itmObj noItm) := by rw [Below.heap_setCell _ _ _ _ (by simp; omega)]; exact hR8
  have F12 : Fr rb s.pv (mustSt ts s6 [59]).pv w (w8.setCell ⟨w.heap.size + 1 + 1, 5, none⟩ (.int .i64 (mustSt ts s6 [59]).ps.length)) := F11.new (by omega) _ _
  obtain ⟨y1, y2⟩ := tail_fin (x := ⟨(tokAt ts s4.i).text, (tokAt ts s.i).text == wAllow, 0, (tokAt ts s.i).pl, (tokAt ts s4.i).pl, 0⟩) (e4.out.1.symm ▸ HA.out) i6.out st6.out top6.out
  have HO : Hid _ := item_out (r := r) (s := s) (w := w) h9 F12 (Nat.le_refl _) hR9 (by rw [p8]; omega) y1 y2
  obtain ⟨⟨x0, x1, x2, x3, x4, x5⟩, xf⟩ := itm_cells hX8
  obtain ⟨⟨z0, z1, z2, z3, z4, z5⟩, zf⟩ := itm_cells hX9
  obtain ⟨⟨r0, r1, r2, r3, r4, r5⟩, rf⟩ := itm_cells hR9
  clear h7 hX7 hR7 F9 F10 hR8 hX8 p8 v8 j8 F11 hpv h9 hX9 hR9 F12 h8 y1 y2
  generalize (mustSt ts s6 [59]).ps.length = np at *
  go_wp2_with fail
  exact bodyPost_ret (v := itmV ⟨(tokAt ts s4.i).text, (tokAt ts s.i).text == wAllow, n6, (tokAt ts s.i).pl, (tokAt ts s4.i).pl, np⟩) (by simp [results, Tryz.results61, go_sem, itmV, cell_set_same, cell_set_off, some_set, r0, r1, r2, r3, r4, r5]) rfl HO.out
end Go.Proofs.YtfkdailfcmnjlaaGreatDoor

namespace Go.Proofs.YtfkdailfcmnjlaaGreatDoor
open Go Go.RowKit
set_option maxRecDepth 100000
attribute [local go_sem ↓] Go.wp_at_zero Go.wp_at_succ

theorem item_any {f : Nat} {B rb gl cl : Nat} {ts : List Tok} {s : St} {w : World} {r : ItR} (h : RS B rb gl cl ts s w) (hts : ∀ t ∈ ts, TokOK t) (hB : B ≤ w.heap.size)
    (hgood : s.bad = false) (hnum : NumsOK s) (hr : itemP f ts s.i (s.ps.map toPt) = some r) :
    Calls Tryz.prog 61 #[.pointer (some ⟨rb, 0, none⟩)] w (LeftI B rb gl cl ts s w r) := by
  unfold itemP at hr
  by_cases h1 : isW (tokAt ts s.i) wLet = true
  · rw [if_pos h1] at hr
    have hx : ((tokAt ts s.i).text == wAllow) = false := by
      unfold isW at h1; simp at h1; rw [h1.2]; decide
    by_cases h2 : (tokAt ts (s.i + 1)).k = 111
    · rw [if_pos h2] at hr
      by_cases h3 : isW (tokAt ts (s.i + 2)) [61] = true
      · rw [if_pos h3] at hr
        exact item_let h hts hB hgood hnum h1 h2 h3 (by rw [hx]; exact hr)
      · rw [if_neg h3] at hr
        simp [itFail] at hr
        exact item_let_noeq h hB hgood h1 h2 h3 hr.symm
    · rw [if_neg h2] at hr
      simp [itFail] at hr
      exact item_let_no h hB hgood h1 h2 hr.symm
  · rw [if_neg h1] at hr
    by_cases ha : isW (tokAt ts s.i) wAllow = true
    · rw [if_pos (by simp [ha])] at hr
      by_cases h3 : isW (tokAt ts (s.i + 1)) wIf = true
      · rw [if_pos h3] at hr
        exact item_allow h hts hB hgood hnum ha h1 h3 hr
      · rw [if_neg h3] at hr
        simp [itFail] at hr
        exact item_allow_no h hB hgood ha h1 h3 hr.symm
    · by_cases hd : isW (tokAt ts s.i) wDeny = true
      · rw [if_pos (by simp [hd])] at hr
        by_cases h3 : isW (tokAt ts (s.i + 1)) wIf = true
        · rw [if_pos h3] at hr
          exact item_deny h hts hB hgood hnum hd h1 h3 hr
        · rw [if_neg h3] at hr
          simp [itFail] at hr
          exact item_deny_no h hB hgood hd h1 h3 hr.symm
      · rw [if_neg (by simp [ha, hd])] at hr
        simp [itFail] at hr
        exact item_none h hB hgood h1 ha hd hr.symm

/-- The parts lie in memory. -/
structure PartsIn (B g cap : Nat) (ps : List PartS) (w : World) : Prop where
  row : w.ownsRow B 169 5 (.slice (some ⟨g, 0, none⟩) ps.length cap) ps.length (partCells ps)
  subs : ∀ p ∈ ps, SubsOK w p
  few : ps.length ≤ 1001

def noPart : PartS := ⟨noTok, [], 0, .slice none 0 0⟩
theorem partCells_at (ps : List PartS) (i : Nat) (hi : i < ps.length) : (partCells ps)[i * 5]? = some (.int .u8 (ps.getD i noPart).tok.k) ∧ (partCells ps)[i * 5 + 1]? = some (S (ps.getD i noPart).tok.text) ∧ (partCells ps)[i * 5 + 2]? = some (.int .i64 (ps.getD i noPart).tok.pl) ∧ (partCells ps)[i * 5 + 3]? = some (ps.getD i noPart).sv ∧ (partCells ps)[i * 5 + 4]? = some (.int .i64 (ps.getD i noPart).n) := by
  induction ps generalizing i with
  | nil => simp at hi
  | cons t ps ih =>
    cases i with
    | zero => simp [partCells]
    | succ i =>
      have := ih i (by simpa using hi)
      have e : partCells (t :: ps) = [.int .u8 t.tok.k, S t.tok.text, .int .i64 t.tok.pl, t.sv, .int .i64 t.n] ++ partCells ps := rfl
      rw [e, show (i + 1) * 5 = i * 5 + 1 + 1 + 1 + 1 + 1 from by omega, show i * 5 + 1 + 1 + 1 + 1 + 1 + 2 = i * 5 + 2 + 1 + 1 + 1 + 1 + 1 from by omega, show i * 5 + 1 + 1 + 1 + 1 + 1 + 3 = i * 5 + 3 + 1 + 1 + 1 + 1 + 1 from by omega, show i * 5 + 1 + 1 + 1 + 1 + 1 + 4 = i * 5 + 4 + 1 + 1 + 1 + 1 + 1 from by omega, show i * 5 + 1 + 1 + 1 + 1 + 1 + 1 = i * 5 + 1 + 1 + 1 + 1 + 1 + 1 from rfl]
      simpa using this
theorem PartsIn.cells {B g cap : Nat} {ps : List PartS} {w : World} (h : PartsIn B g cap ps w) (i : Nat) (hi : i < ps.length) :
    w.cell? ⟨g, i * 5, none⟩ = some (.int .u8 (ps.getD i noPart).tok.k) ∧ w.cell? ⟨g, i * 5 + 1, none⟩ = some (S (ps.getD i noPart).tok.text) ∧ w.cell? ⟨g, i * 5 + 2, none⟩ = some (.int .i64 (ps.getD i noPart).tok.pl) ∧ w.cell? ⟨g, i * 5 + 3, none⟩ = some (ps.getD i noPart).sv ∧ w.cell? ⟨g, i * 5 + 4, none⟩ = some (.int .i64 (ps.getD i noPart).n) := by
  have hc := h.row.cells (g := g) rfl
  obtain ⟨a, b, c, d, e⟩ := partCells_at ps i hi
  have ha : ∀ j, (⟨g, 0, none⟩ : Addr).add j = ⟨g, j, none⟩ := fun j => by unfold Addr.add; split <;> simp_all
  have h0 := hc _ _ a; have h1 := hc _ _ b; have h2 := hc _ _ c; have h3 := hc _ _ d; have h4 := hc _ _ e
  rw [ha] at h0 h1 h2 h3 h4
  exact ⟨h0, h1, h2, h3, h4⟩
theorem PartsIn.below {B g cap : Nat} {ps : List PartS} {w w' : World} (h : PartsIn B g cap ps w) (hb : Below w.heap.size w w') : PartsIn B g cap ps w' :=
  ⟨ownsRow_below h.row hb, fun p hp => (h.subs p hp).of fun k _ hk => hb.block k (lt_of_get hk), h.few⟩
theorem PartsIn.sub {B g cap : Nat} {ps : List PartS} {w : World} (h : PartsIn B g cap ps w) (i : Nat) (hi : i < ps.length) :
    ((ps.getD i noPart).subs = [] ∧ (ps.getD i noPart).sv = .slice none 0 0) ∨ ∃ sb, (ps.getD i noPart).sv = .slice (some ⟨sb, 0, none⟩) (ps.getD i noPart).subs.length (ps.getD i noPart).subs.length ∧ ∀ j, j < (ps.getD i noPart).subs.length → w.cell? ⟨sb, j, none⟩ = some (.int .i64 ((ps.getD i noPart).subs.getD j 0)) := by
  have hm : ps.getD i noPart ∈ ps := by rw [List.getD_eq_getElem?_getD, List.getElem?_eq_getElem hi]; exact List.getElem_mem hi
  rcases h.subs _ hm with e | ⟨sb, e, hh⟩
  · exact .inl e
  · refine .inr ⟨sb, e, fun j hj => ?_⟩
    rw [cell_of_row w sb j _ _ _ hh]
    generalize (ps.getD i noPart).subs = sl at *
    simp [intRow, List.getD_eq_getElem?_getD, hj]
theorem toPt_at (ps : List PartS) (i : Nat) (hi : i < ps.length) : (ps.map toPt).getD i noPt = toPt (ps.getD i noPart) := by
  simp [List.getD_eq_getElem?_getD, hi]

set_option maxHeartbeats 2000000 in
theorem depth_any {B g cap : Nat} {ps : List PartS} (hA : Ahead (ps.map toPt)) (f : Nat) : ∀ (i : Nat) (w : World), PartsIn B g cap ps w → i < f → f ≤ 2000 → i < ps.length →
    Calls Tryz.prog 116 #[.slice (some ⟨g, 0, none⟩) ps.length cap, .int .i64 i] w fun e w' => e = .returned (.int .i64 (dep f (ps.map toPt) i)) ∧ w' = w := by
  induction f with
  | zero => intro i w _ hi; omega
  | succ f ih =>
    intro i w h hif hf hi
    obtain ⟨_, _, _, k3, _⟩ := h.cells i hi
    have hw := h.few
    have b1 : (0 : Int) ≤ (i : Int) := by omega
    have b2 : (i : Int) < (ps.length : Int) := by omega
    have hdp : dep (f + 1) (ps.map toPt) i = foldMax (dep f (ps.map toPt)) (ps.getD i noPart).subs + 1 := by
      rw [dep, toPt_at ps i hi]; rfl
    have hah : (ps.getD i noPart).subs.length ≤ 3 ∧ ∀ j ∈ (ps.getD i noPart).subs, j < i := by have := hA i (by simpa using hi); rw [toPt_at ps i hi] at this; exact this
    have HD : Hid _ := hdp
    have HA : Hid _ := hah
    have HI : Hid _ := ih
    clear hdp hah ih
    rcases h.sub i hi with ⟨e1, e2⟩ | ⟨sb, e2, hcs⟩
    · have H1 : Hid _ := e1
      rw [e2] at k3
      clear e1 e2
      go_enter Tryz.func116, Tryz.ntmps116
      go_wp2_with fail
      go_loop [5, 6] (fun n k => n = .int .i64 0 ∧ k = .int .i64 0) (fun _ _ => 0)
      case atStart => exact ⟨rfl, rfl⟩
      case round =>
        obtain ⟨rfl, rfl⟩ := hrel
        go_wp2_with fail
        go_ret
        refine ⟨ret_int ?_, rfl⟩
        rw [HD.out, H1.out]; rfl
    · rw [e2] at k3
      generalize hS : (ps.getD i noPart).subs = sl at *
      clear e2 hS
      have hsl := HA.out.1
      go_enter Tryz.func116, Tryz.ntmps116
      go_wp2_with fail
      go_loop [5, 6] (fun n k => ∃ j : Nat, j ≤ sl.length ∧ k = .int .i64 j ∧ n = .int .i64 (foldMax (dep f (ps.map toPt)) (sl.take j))) (fun _ k => sl.length - (intOf k).toNat)
      case atStart => exact ⟨0, by omega, rfl, rfl⟩
      case round =>
        obtain ⟨j, hj, rfl, rfl⟩ := hrel
        by_cases hlt : j < sl.length
        · have hcj := hcs j hlt
          have hmem := HA.out.2 sl[j] (List.getElem_mem hlt)
          have hfm := foldMax_take (dep f (ps.map toPt)) sl j hlt
          have d1 := dep_bound f (ps.map toPt) sl[j]
          have d2 := foldMax_le (dep f (ps.map toPt)) (f + 1) (dep_bound f (ps.map toPt)) (sl.take j)
          have HF : Hid _ := hfm
          clear hfm
          go_wp2_with fail
          refine (HI.out sl[j] w h (by omega) (by omega) (by omega)).mono ?_
          rintro e w1 ⟨rfl, rfl⟩
          generalize dep f (ps.map toPt) sl[j] = d at *
          generalize foldMax (dep f (ps.map toPt)) (sl.take j) = m at *
          go_wp2_with fail
          all_goals
            refine ⟨⟨j + 1, by omega, by go_num, val_int ?_⟩, by simp [intOf]; omega⟩
            rw [HF.out]; omega
        · have d2 := foldMax_le (dep f (ps.map toPt)) (f + 1) (dep_bound f (ps.map toPt)) (sl.take j)
          have HE : Hid (sl.take j = sl) := List.take_of_length_le (by omega)
          go_wp2_with fail
          go_ret
          refine ⟨ret_int ?_, rfl⟩
          rw [HE.out, HD.out]; omega
end Go.Proofs.YtfkdailfcmnjlaaGreatDoor

namespace Go.Proofs.YtfkdailfcmnjlaaGreatDoor
open Go Go.RowKit
set_option maxRecDepth 100000

def itmCells (xs : List Itm) : List Value := xs.flatMap fun x => [S x.name, .bool x.allow, .int .i64 x.top, .int .i64 x.pl, .int .i64 x.named, .int .i64 x.parts]
theorem itmCells_snoc (xs : List Itm) (x : Itm) : itmCells (xs ++ [x]) = itmCells xs ++ [S x.name, .bool x.allow, .int .i64 x.top, .int .i64 x.pl, .int .i64 x.named, .int .i64 x.parts] := by simp [itmCells]
theorem itmCells_at (xs : List Itm) (i : Nat) (hi : i < xs.length) : (itmCells xs)[i * 6]? = some (S xs[i].name) ∧ (itmCells xs)[i * 6 + 1]? = some (.bool xs[i].allow) ∧ (itmCells xs)[i * 6 + 2]? = some (.int .i64 xs[i].top) ∧ (itmCells xs)[i * 6 + 3]? = some (.int .i64 xs[i].pl) ∧ (itmCells xs)[i * 6 + 4]? = some (.int .i64 xs[i].named) ∧ (itmCells xs)[i * 6 + 5]? = some (.int .i64 xs[i].parts) := by
  induction xs generalizing i with
  | nil => simp at hi
  | cons t xs ih =>
    cases i with
    | zero => simp [itmCells]
    | succ i =>
      have := ih i (by simpa using hi)
      have e : itmCells (t :: xs) = [S t.name, .bool t.allow, .int .i64 t.top, .int .i64 t.pl, .int .i64 t.named, .int .i64 t.parts] ++ itmCells xs := rfl
      rw [e, show (i + 1) * 6 = i * 6 + 1 + 1 + 1 + 1 + 1 + 1 from by omega, show i * 6 + 1 + 1 + 1 + 1 + 1 + 1 + 2 = i * 6 + 2 + 1 + 1 + 1 + 1 + 1 + 1 from by omega, show i * 6 + 1 + 1 + 1 + 1 + 1 + 1 + 3 = i * 6 + 3 + 1 + 1 + 1 + 1 + 1 + 1 from by omega, show i * 6 + 1 + 1 + 1 + 1 + 1 + 1 + 4 = i * 6 + 4 + 1 + 1 + 1 + 1 + 1 + 1 from by omega, show i * 6 + 1 + 1 + 1 + 1 + 1 + 1 + 5 = i * 6 + 5 + 1 + 1 + 1 + 1 + 1 + 1 from by omega]
      simpa using this

/-- The items lie in memory. -/
structure ItemsIn (B : Nat) (iv : Value) (xs : List Itm) (w : World) : Prop where
  row : w.ownsRow B 95 6 iv xs.length (itmCells xs)
  few : xs.length ≤ 1001
theorem ItemsIn.below {B : Nat} {iv : Value} {xs : List Itm} {w w' : World} (h : ItemsIn B iv xs w) (hb : Below w.heap.size w w') : ItemsIn B iv xs w' := ⟨ownsRow_below h.row hb, h.few⟩
theorem ItemsIn.form {B : Nat} {iv : Value} {xs : List Itm} {w : World} (h : ItemsIn B iv xs w) : (iv = .slice none 0 0 ∧ xs.length = 0) ∨ ∃ g c, iv = .slice (some ⟨g, 0, none⟩) xs.length c := by
  rcases h.row.2 with e | ⟨g, cap, cur, e, _⟩
  · exact .inl e
  · exact .inr ⟨g, cap, e⟩
theorem ItemsIn.cells {B g c : Nat} {xs : List Itm} {w : World} (h : ItemsIn B (.slice (some ⟨g, 0, none⟩) xs.length c) xs w) (i : Nat) (hi : i < xs.length) :
    w.cell? ⟨g, i * 6, none⟩ = some (S xs[i].name) ∧ w.cell? ⟨g, i * 6 + 1, none⟩ = some (.bool xs[i].allow) ∧ w.cell? ⟨g, i * 6 + 2, none⟩ = some (.int .i64 xs[i].top) ∧ w.cell? ⟨g, i * 6 + 3, none⟩ = some (.int .i64 xs[i].pl) ∧ w.cell? ⟨g, i * 6 + 4, none⟩ = some (.int .i64 xs[i].named) ∧ w.cell? ⟨g, i * 6 + 5, none⟩ = some (.int .i64 xs[i].parts) := by
  have hc := h.row.cells (g := g) rfl
  obtain ⟨a, b, c, d, e, f⟩ := itmCells_at xs i hi
  have ha : ∀ j, (⟨g, 0, none⟩ : Addr).add j = ⟨g, j, none⟩ := fun j => by unfold Addr.add; split <;> simp_all
  have h0 := hc _ _ a; have h1 := hc _ _ b; have h2 := hc _ _ c; have h3 := hc _ _ d; have h4 := hc _ _ e; have h5 := hc _ _ f
  rw [ha] at h0 h1 h2 h3 h4 h5
  exact ⟨h0, h1, h2, h3, h4, h5⟩

set_option maxHeartbeats 2000000 in
theorem let_any {B : Nat} {iv : Value} {xs : List Itm} {w : World} (h : ItemsIn B iv xs w) (pa : Option Addr) (pn pc : Nat) (s : List UInt8) (k : Nat) (hk : k ≤ xs.length) :
    Calls Tryz.prog 90 #[.agg #[iv, .slice pa pn pc], S s, .int .i64 k] w fun e w' => e = .returned (.int .i64 (letIx xs s k)) ∧ Below w.heap.size w w' := by
  have hb := (Below.refl w.heap.size w).alloc (Nat.le_refl _) (.cells #[iv, .slice pa pn pc] 90)
  rcases h.form with ⟨rfl, h0⟩ | ⟨g, c, rfl⟩
  · have hk0 : k = 0 := by omega
    subst hk0
    have HB : Hid _ := hb
    clear hb
    go_enter Tryz.func90, Tryz.ntmps90
    go_wp2_with fail
    go_loop [7] (fun i => i = .int .i64 0) (fun _ => 0)
    case atStart => rfl
    case round =>
      subst hrel
      go_wp2_with fail
      go_ret
      exact ⟨ret_int (by rw [letIx_zero]), HB.out⟩
  · have hf := h.few
    have h' := h.below hb
    have HB : Hid _ := hb
    clear hb
    go_enter Tryz.func90, Tryz.ntmps90
    go_wp2_with fail
    go_loop [7] (fun i => ∃ j : Nat, j ≤ k ∧ i = .int .i64 j ∧ Hid (letIx xs s k = (if letIx (xs.drop j) s (k - j) < 0 then -1 else letIx (xs.drop j) s (k - j) + j))) (fun i => k - (intOf i).toNat)
    case atStart =>
      refine ⟨0, Nat.zero_le _, rfl, ?_⟩
      have := letIx_ge xs s k
      show _ = _; simp; omega
    case round =>
      obtain ⟨j, hj, rfl, HL⟩ := hrel
      by_cases hlt : j < k
      · have hjl : j < xs.length := by omega
        have c0 := (h'.cells j hjl).1
        have hst := letIx_step xs s j (k - j) hjl (by omega)
        have HS : Hid _ := hst
        have b1 : (0 : Int) ≤ (j : Int) := by omega
        have b2 : (j : Int) < (xs.length : Int) := by omega
        clear hst
        go_wp2_with fail
        · go_ret
          refine ⟨ret_int ?_, HB.out⟩
          rw [HL.out, HS.out]
          simp [*]
        · refine ⟨⟨j + 1, by omega, by go_num, ?_⟩, by simp [intOf]; omega⟩
          show _ = _
          have := letIx_ge (xs.drop (j + 1)) s (k - j - 1)
          rw [HL.out, HS.out, show k - (j + 1) = k - j - 1 from by omega]
          simp [*]
          split <;> omega
      · go_wp2_with fail
        go_ret
        have e : k - j = 0 := by omega
        refine ⟨ret_int ?_, HB.out⟩
        rw [HL.out, e, letIx_zero]; rfl

/-- What 'many' answers. -/
def placeV (o : Option Nat) : Value := match o with
  | some p => .int .i64 p
  | none => .int .i64 (-1)

theorem many_step (L : List Pt) (xs : List Itm) (j lets : Nat) (hj : j < xs.length) : manyAt L (xs.drop j) lets j =
    if 10 < lets + (if xs[j].name == [] then 0 else 1) ∨ 20 < j + 1 - (lets + (if xs[j].name == [] then 0 else 1)) ∨ 200 < xs[j].parts ∨ 20 < dep (xs[j].top + 1) L xs[j].top then some xs[j].pl
    else manyAt L (xs.drop (j + 1)) (lets + (if xs[j].name == [] then 0 else 1)) (j + 1) := by
  rw [List.drop_eq_getElem_cons hj, manyAt]

set_option maxHeartbeats 4000000 in
theorem many_any {B g cap : Nat} {iv : Value} {xs : List Itm} {ps : List PartS} {w : World} (h : ItemsIn B iv xs w) (hp : PartsIn B g cap ps w) (hA : Ahead (ps.map toPt)) (hT : ∀ x ∈ xs, x.top < ps.length) (hq : ∀ x ∈ xs, x.parts ≤ 1001) :
    Calls Tryz.prog 62 #[.agg #[iv, .slice (some ⟨g, 0, none⟩) ps.length cap]] w fun e w' => e = .returned (placeV (manyAt (ps.map toPt) xs 0 0)) ∧ Below w.heap.size w w' := by
  have hb := (Below.refl w.heap.size w).alloc (Nat.le_refl _) (.cells #[iv, .slice (some ⟨g, 0, none⟩) ps.length cap] 90)
  rcases h.form with ⟨rfl, h0⟩ | ⟨gi, c, rfl⟩
  · have HB : Hid _ := hb
    have HE : Hid (manyAt (ps.map toPt) xs 0 0 = none) := by
      show _ = _; cases xs with
      | nil => rfl
      | cons => simp at h0
    clear hb h0
    go_enter Tryz.func62, Tryz.ntmps62
    go_wp2_with fail
    go_loop [3, 4] (fun n i => n = .int .i64 0 ∧ i = .int .i64 0) (fun _ _ => 0)
    case atStart => exact ⟨rfl, rfl⟩
    case round =>
      obtain ⟨rfl, rfl⟩ := hrel
      go_wp2_with fail
      go_ret
      exact ⟨by rw [HE.out]; rfl, HB.out⟩
  · have hbx : (w.alloc (.cells #[.slice (some ⟨gi, 0, none⟩) xs.length c, .slice (some ⟨g, 0, none⟩) ps.length cap] 90)).heap[w.heap.size]? = some (.cells #[.slice (some ⟨gi, 0, none⟩) xs.length c, .slice (some ⟨g, 0, none⟩) ps.length cap] 90 (0, 0)) := heap_alloc_new w _
    have hf := h.few
    have hpf := hp.few
    have HX : Hid _ := hbx
    clear hbx
    go_enter Tryz.func62, Tryz.ntmps62
    go_wp2_with fail
    go_loopw [3, 4] (fun n i wr => ∃ (lets j : Nat), lets ≤ j ∧ j ≤ xs.length ∧ n = .int .i64 lets ∧ i = .int .i64 j ∧ Hid (manyAt (ps.map toPt) xs 0 0 = manyAt (ps.map toPt) (xs.drop j) lets j) ∧ Below w.heap.size w wr ∧ wr.heap[w.heap.size]? = some (.cells #[.slice (some ⟨gi, 0, none⟩) xs.length c, .slice (some ⟨g, 0, none⟩) ps.length cap] 90 (0, 0))) (fun _ i _ => xs.length - (intOf i).toNat)
    case atStart => exact ⟨0, 0, Nat.le_refl _, Nat.zero_le _, rfl, rfl, rfl, hb, HX.out⟩
    case round =>
      obtain ⟨lets, j, hlj, hj, rfl, rfl, HM, hbw, hbx⟩ := hrel
      have q0 := cell_of_row wr w.heap.size 0 _ _ _ hbx
      have q1 := cell_of_row wr w.heap.size 1 _ _ _ hbx
      have hlw := lt_of_get hbx
      simp only [List.getElem?_toArray, List.getElem?_cons_zero, List.getElem?_cons_succ] at q0 q1
      by_cases hlt : j < xs.length
      · have hi' := h.below hbw
        have hp' := hp.below hbw
        obtain ⟨c0, c1, c2, c3, c4, c5⟩ := hi'.cells j hlt
        have hst := many_step (ps.map toPt) xs j lets hlt
        have HS : Hid _ := hst
        have hm : xs[j] ∈ xs := List.getElem_mem hlt
        have hTj := hT _ hm
        have hqj := hq _ hm
        have b1 : (0 : Int) ≤ (j : Int) := by omega
        have b2 : (j : Int) < (xs.length : Int) := by omega
        have lg := World.block_lt_of_cell? wr _ c0
        simp only at lg
        have hd := dep_bound (xs[j].top + 1) (ps.map toPt) xs[j].top
        have hnx : wr.heap.size ≠ w.heap.size := by omega
        have hng : wr.heap.size ≠ gi := by omega
        clear hst hm
        have hPN := hp'.below ((Below.refl _ _).alloc (Nat.le_refl _) (.cells #[S xs[j].name, .bool xs[j].allow, .int .i64 xs[j].top, .int .i64 xs[j].pl, .int .i64 xs[j].named, .int .i64 xs[j].parts] 95))
        have hbN : Hid (Below w.heap.size w (wr.alloc (.cells #[S xs[j].name, .bool xs[j].allow, .int .i64 xs[j].top, .int .i64 xs[j].pl, .int .i64 xs[j].named, .int .i64 xs[j].parts] 95))) := hbw.alloc (by omega) _
        have hbX : Hid ((wr.alloc (.cells #[S xs[j].name, .bool xs[j].allow, .int .i64 xs[j].top, .int .i64 xs[j].pl, .int .i64 xs[j].named, .int .i64 xs[j].parts] 95)).heap[w.heap.size]? = some (.cells #[.slice (some ⟨gi, 0, none⟩) xs.length c, .slice (some ⟨g, 0, none⟩) ps.length cap] 90 (0, 0))) := by show _ = _; rw [Below.heap_alloc _ _ _ hlw]; exact hbx
        clear hi' hp' hbx
        cases hnm : (xs[j].name == []) with
        | true =>
          have hn' : (xs[j].name == ([] : List UInt8)) = true := hnm
          have HQ : Hid (manyAt (ps.map toPt) (xs.drop j) lets j = if 10 < lets ∨ 20 < j + 1 - lets ∨ 200 < xs[j].parts ∨ 20 < dep (xs[j].top + 1) (ps.map toPt) xs[j].top then some xs[j].pl else manyAt (ps.map toPt) (xs.drop (j + 1)) lets (j + 1)) := by
            show _ = _; rw [HS.out, hnm]; rfl
          clear hnm HS
          go_wp2_with fail
          refine (depth_any hA (xs[j].top + 1) xs[j].top _ hPN (by omega) (by omega) hTj).mono ?_
          rintro e w1 ⟨rfl, rfl⟩
          clear hPN
          generalize dep (xs[j].top + 1) (ps.map toPt) xs[j].top = d at *
          go_wp2_with fail
          all_goals first
            | (go_ret
               refine ⟨?_, hbN.out⟩
               rw [HM.out, HQ.out, if_pos (by omega)]; rfl)
            | (go_roundw
               case rel => exact ⟨lets, j + 1, by omega, by omega, by go_num, by go_num, (by show _ = _; rw [HM.out, HQ.out, if_neg (by omega)]), hbN.out, hbX.out⟩
               case measure => simp [intOf]; omega)
        | false =>
          have hn' : (xs[j].name == ([] : List UInt8)) = false := hnm
          have HQ : Hid (manyAt (ps.map toPt) (xs.drop j) lets j = if 10 < (lets + 1) ∨ 20 < j + 1 - (lets + 1) ∨ 200 < xs[j].parts ∨ 20 < dep (xs[j].top + 1) (ps.map toPt) xs[j].top then some xs[j].pl else manyAt (ps.map toPt) (xs.drop (j + 1)) (lets + 1) (j + 1)) := by
            show _ = _; rw [HS.out, hnm]; rfl
          clear hnm HS
          go_wp2_with fail
          refine (depth_any hA (xs[j].top + 1) xs[j].top _ hPN (by omega) (by omega) hTj).mono ?_
          rintro e w1 ⟨rfl, rfl⟩
          clear hPN
          generalize dep (xs[j].top + 1) (ps.map toPt) xs[j].top = d at *
          go_wp2_with fail
          all_goals first
            | (go_ret
               refine ⟨?_, hbN.out⟩
               rw [HM.out, HQ.out, if_pos (by omega)]; rfl)
            | (go_roundw
               case rel => exact ⟨(lets + 1), j + 1, by omega, by omega, by go_num, by go_num, (by show _ = _; rw [HM.out, HQ.out, if_neg (by omega)]), hbN.out, hbX.out⟩
               case measure => simp [intOf]; omega)
      · go_wp2_with fail
        go_ret
        refine ⟨?_, hbw⟩
        rw [HM.out, List.drop_of_length_le (by omega)]; rfl
end Go.Proofs.YtfkdailfcmnjlaaGreatDoor
