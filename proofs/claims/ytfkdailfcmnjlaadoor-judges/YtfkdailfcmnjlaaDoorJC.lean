/-
  The program's fields of an event in a state. A copy of rows of pairs; the law's loan of a state.
-/
import Derived.Test.YtfkdailfcmnjlaaDoorJA
import Derived.Test.YtfkdailfcmnjlaaDoorJB
import Derived.Deep.RegionHeld3
import Derived.Laws.CopyOwn
set_option linter.unusedVariables false
set_option linter.unusedSimpArgs false
namespace Go.Proofs.YtfkdailfcmnjlaaDoor
open Go Go.RowKit
set_option maxRecDepth 100000
attribute [local go_sem ↓] Go.wp_at_zero Go.wp_at_succ

theorem below_cells {B b : Nat} {a : World} (hb : B ≤ b) : ∀ (vs : List Value) (o : Nat) {w : World}, Below B a w → Below B a (w.setCells b o vs)
  | [], _, _, h => h
  | v :: r, o, w, h => below_cells hb r (o + 1) (h.setCell (by simpa using hb) v)
theorem there_below {w w' : World} {b o n : Nat} (h : w.there b o n) (hb : Below w.heap.size w w') : w'.there b o n := fun j hj => by
  have h1 := h j hj
  have hl : b < w.heap.size := by
    obtain ⟨v, hv⟩ := Option.isSome_iff_exists.1 h1.1
    exact World.block_lt_of_cell? w _ hv
  have e := hb.block b hl
  exact ⟨by rw [World.cell?_of_block (w := w) (a := ⟨b, o + j, none⟩) e]; exact h1.1, by rw [World.frozen?_of_block (w := w) (a := ⟨b, o + j, none⟩) e]; exact h1.2⟩
theorem there_cells {w : World} {b : Nat} {cs : Array Value} {t : TypeId} (h : w.heap[b]? = some (.cells cs t (0, 0))) : w.there b 0 cs.size := fun j hj => by
  rw [Nat.zero_add]
  exact ⟨by rw [cell_of_row w b j _ _ _ h]; simp [hj], by simp [World.frozen?, h]⟩
set_option maxHeartbeats 8000000 in
theorem pfields_any {lv mv : Value} (e : Ev) (s : Stt) (w : World) (h1 : PairsAt lv s.levels w) (h2 : PairsAt mv s.members w) :
    Calls Tryd.prog 21 #[evV e, sttV lv mv s] w fun en w' => en = .returned (flV (fieldsL e s)) ∧ Below w.heap.size w w' := by
  unfold evV sttV
  obtain ⟨sn, tg, wa, nd, wh⟩ := e
  obtain ⟨ls, df, ms, op⟩ := s
  simp only [] at *
  have hol : lv.oneCell' = true := by obtain ⟨_, a, c, rfl, _⟩ := h1; rfl
  have hom : mv.oneCell' = true := by obtain ⟨_, a, c, rfl, _⟩ := h2; rfl
  have hB0 : Below w.heap.size w (((w.alloc (.cells #[S sn, S tg, .int .i64 wa, .int .i64 nd, .int .i64 wh] 23)).alloc (.cells #[lv, .int .i64 df, mv, .bool op] 27)).alloc (.cells #[.int .i64 0, .int .i64 0, .int .i64 0, .int .i64 0, .int .i64 0, .int .i64 0, .int .i64 0, .int .i64 0, .int .i64 0] 73)) := (((Below.refl _ _).alloc (Nat.le_refl _) _).alloc (by simp) _).alloc (by simp; omega) _
  have hX0 : (((w.alloc (.cells #[S sn, S tg, .int .i64 wa, .int .i64 nd, .int .i64 wh] 23)).alloc (.cells #[lv, .int .i64 df, mv, .bool op] 27)).alloc (.cells #[.int .i64 0, .int .i64 0, .int .i64 0, .int .i64 0, .int .i64 0, .int .i64 0, .int .i64 0, .int .i64 0, .int .i64 0] 73)).heap[w.heap.size]? = some (.cells #[S sn, S tg, .int .i64 wa, .int .i64 nd, .int .i64 wh] 23 (0, 0)) := by rw [Below.heap_alloc _ _ _ (by simp; omega), Below.heap_alloc _ _ _ (by simp)]; exact heap_alloc_new w _
  have hP0 : (((w.alloc (.cells #[S sn, S tg, .int .i64 wa, .int .i64 nd, .int .i64 wh] 23)).alloc (.cells #[lv, .int .i64 df, mv, .bool op] 27)).alloc (.cells #[.int .i64 0, .int .i64 0, .int .i64 0, .int .i64 0, .int .i64 0, .int .i64 0, .int .i64 0, .int .i64 0, .int .i64 0] 73)).heap[w.heap.size + 1]? = some (.cells #[lv, .int .i64 df, mv, .bool op] 27 (0, 0)) := by
    rw [Below.heap_alloc _ _ _ (by simp)]
    have e := heap_alloc_new (w.alloc (.cells #[S sn, S tg, .int .i64 wa, .int .i64 nd, .int .i64 wh] 23)) (.cells #[lv, .int .i64 df, mv, .bool op] 27); rw [World.size_alloc] at e; exact e
  have hR0 : (((w.alloc (.cells #[S sn, S tg, .int .i64 wa, .int .i64 nd, .int .i64 wh] 23)).alloc (.cells #[lv, .int .i64 df, mv, .bool op] 27)).alloc (.cells #[.int .i64 0, .int .i64 0, .int .i64 0, .int .i64 0, .int .i64 0, .int .i64 0, .int .i64 0, .int .i64 0, .int .i64 0] 73)).heap[w.heap.size + 1 + 1]? = some (.cells #[.int .i64 0, .int .i64 0, .int .i64 0, .int .i64 0, .int .i64 0, .int .i64 0, .int .i64 0, .int .i64 0, .int .i64 0] 73 (0, 0)) := by
    have e := heap_alloc_new ((w.alloc (.cells #[S sn, S tg, .int .i64 wa, .int .i64 nd, .int .i64 wh] 23)).alloc (.cells #[lv, .int .i64 df, mv, .bool op] 27)) (.cells #[.int .i64 0, .int .i64 0, .int .i64 0, .int .i64 0, .int .i64 0, .int .i64 0, .int .i64 0, .int .i64 0, .int .i64 0] 73); rw [World.size_alloc, World.size_alloc] at e; exact e
  have H0 : Hid _ := And.intro hB0 (And.intro hX0 (And.intro hP0 hR0))
  have WL : ∀ (u : List UInt8) (W : World), Below w.heap.size w W → Calls Tryd.prog 32 #[.agg #[lv, .int .i64 df, mv, .bool op], S u] W fun e w' => e = .returned (.int .i64 (firstI df ls u)) ∧ Below W.heap.size W w' := fun u W hb => plevel_any u W (h1.below hb)
  have WI : ∀ (u : List UInt8) (W : World), Below w.heap.size w W → Calls Tryd.prog 33 #[.agg #[lv, .int .i64 df, mv, .bool op], S u] W fun e w' => e = .returned (.int .i64 (firstK ms u)) ∧ Below W.heap.size W w' := fun u W hb => pstanding_any u W (h2.below hb)
  have WK := fun W => pmember_any wa W
  have WT := fun b W => ptruth_any b W
  have KP : Hid (∀ W W', (Below w.heap.size w W ∧ W.cell? ⟨w.heap.size, 0, none⟩ = some (S sn) ∧ W.cell? ⟨w.heap.size, 1, none⟩ = some (S tg) ∧ W.cell? ⟨w.heap.size, 2, none⟩ = some (.int .i64 wa) ∧ W.cell? ⟨w.heap.size, 3, none⟩ = some (.int .i64 nd) ∧ W.cell? ⟨w.heap.size, 4, none⟩ = some (.int .i64 wh) ∧ W.cell? ⟨w.heap.size + 1, 0, none⟩ = some (lv) ∧ W.cell? ⟨w.heap.size + 1, 1, none⟩ = some (.int .i64 df) ∧ W.cell? ⟨w.heap.size + 1, 2, none⟩ = some (mv) ∧ W.cell? ⟨w.heap.size + 1, 3, none⟩ = some (.bool op) ∧ W.there (w.heap.size + 1 + 1) 0 9) → Below W.heap.size W W' → (Below w.heap.size w W' ∧ W'.cell? ⟨w.heap.size, 0, none⟩ = some (S sn) ∧ W'.cell? ⟨w.heap.size, 1, none⟩ = some (S tg) ∧ W'.cell? ⟨w.heap.size, 2, none⟩ = some (.int .i64 wa) ∧ W'.cell? ⟨w.heap.size, 3, none⟩ = some (.int .i64 nd) ∧ W'.cell? ⟨w.heap.size, 4, none⟩ = some (.int .i64 wh) ∧ W'.cell? ⟨w.heap.size + 1, 0, none⟩ = some (lv) ∧ W'.cell? ⟨w.heap.size + 1, 1, none⟩ = some (.int .i64 df) ∧ W'.cell? ⟨w.heap.size + 1, 2, none⟩ = some (mv) ∧ W'.cell? ⟨w.heap.size + 1, 3, none⟩ = some (.bool op) ∧ W'.there (w.heap.size + 1 + 1) 0 9)) := fun W W' hS hb => by
    obtain ⟨hb0, a0, a1, a2, a3, a4, a5, a6, a7, a8, tt⟩ := hS
    refine ⟨hb0.trans (hb.mono hb0.size), ?_, ?_, ?_, ?_, ?_, ?_, ?_, ?_, ?_, ?_⟩
    all_goals first
      | (rw [hb.cell (World.block_lt_of_cell? W _ (by assumption))]; assumption)
      | exact there_below tt hb
  have KD : Hid (∀ W : World, (Below w.heap.size w W ∧ W.cell? ⟨w.heap.size, 0, none⟩ = some (S sn) ∧ W.cell? ⟨w.heap.size, 1, none⟩ = some (S tg) ∧ W.cell? ⟨w.heap.size, 2, none⟩ = some (.int .i64 wa) ∧ W.cell? ⟨w.heap.size, 3, none⟩ = some (.int .i64 nd) ∧ W.cell? ⟨w.heap.size, 4, none⟩ = some (.int .i64 wh) ∧ W.cell? ⟨w.heap.size + 1, 0, none⟩ = some (lv) ∧ W.cell? ⟨w.heap.size + 1, 1, none⟩ = some (.int .i64 df) ∧ W.cell? ⟨w.heap.size + 1, 2, none⟩ = some (mv) ∧ W.cell? ⟨w.heap.size + 1, 3, none⟩ = some (.bool op) ∧ W.there (w.heap.size + 1 + 1) 0 9) → (Below w.heap.size w W.drew ∧ W.drew.cell? ⟨w.heap.size, 0, none⟩ = some (S sn) ∧ W.drew.cell? ⟨w.heap.size, 1, none⟩ = some (S tg) ∧ W.drew.cell? ⟨w.heap.size, 2, none⟩ = some (.int .i64 wa) ∧ W.drew.cell? ⟨w.heap.size, 3, none⟩ = some (.int .i64 nd) ∧ W.drew.cell? ⟨w.heap.size, 4, none⟩ = some (.int .i64 wh) ∧ W.drew.cell? ⟨w.heap.size + 1, 0, none⟩ = some (lv) ∧ W.drew.cell? ⟨w.heap.size + 1, 1, none⟩ = some (.int .i64 df) ∧ W.drew.cell? ⟨w.heap.size + 1, 2, none⟩ = some (mv) ∧ W.drew.cell? ⟨w.heap.size + 1, 3, none⟩ = some (.bool op) ∧ W.drew.there (w.heap.size + 1 + 1) 0 9)) := fun W hS => by
    obtain ⟨hb0, a0, a1, a2, a3, a4, a5, a6, a7, a8, tt⟩ := hS
    exact ⟨hb0.drew, a0, a1, a2, a3, a4, a5, a6, a7, a8, tt⟩
  have KS : Hid (∀ W vs, (Below w.heap.size w W ∧ W.cell? ⟨w.heap.size, 0, none⟩ = some (S sn) ∧ W.cell? ⟨w.heap.size, 1, none⟩ = some (S tg) ∧ W.cell? ⟨w.heap.size, 2, none⟩ = some (.int .i64 wa) ∧ W.cell? ⟨w.heap.size, 3, none⟩ = some (.int .i64 nd) ∧ W.cell? ⟨w.heap.size, 4, none⟩ = some (.int .i64 wh) ∧ W.cell? ⟨w.heap.size + 1, 0, none⟩ = some (lv) ∧ W.cell? ⟨w.heap.size + 1, 1, none⟩ = some (.int .i64 df) ∧ W.cell? ⟨w.heap.size + 1, 2, none⟩ = some (mv) ∧ W.cell? ⟨w.heap.size + 1, 3, none⟩ = some (.bool op) ∧ W.there (w.heap.size + 1 + 1) 0 9) → (Below w.heap.size w (W.setCells (w.heap.size + 1 + 1) 0 vs) ∧ (W.setCells (w.heap.size + 1 + 1) 0 vs).cell? ⟨w.heap.size, 0, none⟩ = some (S sn) ∧ (W.setCells (w.heap.size + 1 + 1) 0 vs).cell? ⟨w.heap.size, 1, none⟩ = some (S tg) ∧ (W.setCells (w.heap.size + 1 + 1) 0 vs).cell? ⟨w.heap.size, 2, none⟩ = some (.int .i64 wa) ∧ (W.setCells (w.heap.size + 1 + 1) 0 vs).cell? ⟨w.heap.size, 3, none⟩ = some (.int .i64 nd) ∧ (W.setCells (w.heap.size + 1 + 1) 0 vs).cell? ⟨w.heap.size, 4, none⟩ = some (.int .i64 wh) ∧ (W.setCells (w.heap.size + 1 + 1) 0 vs).cell? ⟨w.heap.size + 1, 0, none⟩ = some (lv) ∧ (W.setCells (w.heap.size + 1 + 1) 0 vs).cell? ⟨w.heap.size + 1, 1, none⟩ = some (.int .i64 df) ∧ (W.setCells (w.heap.size + 1 + 1) 0 vs).cell? ⟨w.heap.size + 1, 2, none⟩ = some (mv) ∧ (W.setCells (w.heap.size + 1 + 1) 0 vs).cell? ⟨w.heap.size + 1, 3, none⟩ = some (.bool op) ∧ (W.setCells (w.heap.size + 1 + 1) 0 vs).there (w.heap.size + 1 + 1) 0 9)) := fun W vs hS => by
    obtain ⟨hb0, a0, a1, a2, a3, a4, a5, a6, a7, a8, tt⟩ := hS
    refine ⟨below_cells (by omega) _ _ hb0, ?_, ?_, ?_, ?_, ?_, ?_, ?_, ?_, ?_, ?_⟩
    all_goals first
      | (rw [World.cell?_setCells_out _ _ _ _ _ (fun h => by exfalso; dsimp only at h; omega)]; assumption)
      | exact World.there_setCells tt _ _ _
  have HF : Hid (fieldsL ⟨sn, tg, wa, nd, wh⟩ ⟨ls, df, ms, op⟩ = [firstI df ls sn, firstI df ls tg, nd, wh, firstK ms sn, firstK ms tg, knownI wa, truthI (sn == tg), truthI op]) := rfl
  clear hB0 hX0 hP0 hR0 h1 h2
  go_enter Tryd.func21, Tryd.ntmps21
  go_wp2_with fail
  obtain ⟨hB0, hX0, hP0, hR0⟩ := H0.out
  clear H0
  generalize (((w.alloc (.cells #[S sn, S tg, .int .i64 wa, .int .i64 nd, .int .i64 wh] 23)).alloc (.cells #[lv, .int .i64 df, mv, .bool op] 27)).alloc (.cells #[.int .i64 0, .int .i64 0, .int .i64 0, .int .i64 0, .int .i64 0, .int .i64 0, .int .i64 0, .int .i64 0, .int .i64 0] 73)) = wz at *
  have hS0 : (Below w.heap.size w wz ∧ wz.cell? ⟨w.heap.size, 0, none⟩ = some (S sn) ∧ wz.cell? ⟨w.heap.size, 1, none⟩ = some (S tg) ∧ wz.cell? ⟨w.heap.size, 2, none⟩ = some (.int .i64 wa) ∧ wz.cell? ⟨w.heap.size, 3, none⟩ = some (.int .i64 nd) ∧ wz.cell? ⟨w.heap.size, 4, none⟩ = some (.int .i64 wh) ∧ wz.cell? ⟨w.heap.size + 1, 0, none⟩ = some (lv) ∧ wz.cell? ⟨w.heap.size + 1, 1, none⟩ = some (.int .i64 df) ∧ wz.cell? ⟨w.heap.size + 1, 2, none⟩ = some (mv) ∧ wz.cell? ⟨w.heap.size + 1, 3, none⟩ = some (.bool op) ∧ wz.there (w.heap.size + 1 + 1) 0 9) := by
    refine ⟨hB0, ?_, ?_, ?_, ?_, ?_, ?_, ?_, ?_, ?_, ?_⟩
    all_goals first | (rw [cell_of_row wz w.heap.size _ _ _ _ hX0]; rfl) | (rw [cell_of_row wz (w.heap.size + 1) _ _ _ _ hP0]; rfl) | exact there_cells hR0
  have hlen9 : [Value.int .i64 (firstI df ls sn), Value.int .i64 (firstI df ls tg), Value.int .i64 nd, Value.int .i64 wh, Value.int .i64 (firstK ms sn), Value.int .i64 (firstK ms tg), Value.int .i64 (knownI wa), Value.int .i64 (truthI (sn == tg)), Value.int .i64 (truthI op)].length = 9 := rfl
  have hone9 : ∀ v ∈ [Value.int .i64 (firstI df ls sn), Value.int .i64 (firstI df ls tg), Value.int .i64 nd, Value.int .i64 wh, Value.int .i64 (firstK ms sn), Value.int .i64 (firstK ms tg), Value.int .i64 (knownI wa), Value.int .i64 (truthI (sn == tg)), Value.int .i64 (truthI op)], v.oneCell' = true := by
    intro v hv
    simp only [List.mem_cons, List.not_mem_nil, or_false] at hv
    rcases hv with rfl | rfl | rfl | rfl | rfl | rfl | rfl | rfl | rfl <;> rfl
  have hsz9 : Option.map (fun x => x.size) (Tryd.prog.info? 73) = some 9 := by kernel_rfl
  clear hB0 hX0 hP0 hR0
  go_region_held3 (fun w' => (Below w.heap.size w w' ∧ w'.cell? ⟨w.heap.size, 0, none⟩ = some (S sn) ∧ w'.cell? ⟨w.heap.size, 1, none⟩ = some (S tg) ∧ w'.cell? ⟨w.heap.size, 2, none⟩ = some (.int .i64 wa) ∧ w'.cell? ⟨w.heap.size, 3, none⟩ = some (.int .i64 nd) ∧ w'.cell? ⟨w.heap.size, 4, none⟩ = some (.int .i64 wh) ∧ w'.cell? ⟨w.heap.size + 1, 0, none⟩ = some (lv) ∧ w'.cell? ⟨w.heap.size + 1, 1, none⟩ = some (.int .i64 df) ∧ w'.cell? ⟨w.heap.size + 1, 2, none⟩ = some (mv) ∧ w'.cell? ⟨w.heap.size + 1, 3, none⟩ = some (.bool op) ∧ w'.there (w.heap.size + 1 + 1) 0 9)) (first | with_reducible exact KD.out _ (by assumption) | with_reducible exact KP.out _ _ (by assumption) (by assumption) | with_reducible exact KS.out _ _ (by assumption) | with_reducible assumption | go_keep)
    (first
      | (go_at_call 32; refine (WL _ _ (by exact And.left (by assumption))).mono ?_; rintro e w1 ⟨rfl, hb1⟩)
      | (go_at_call 33; refine (WI _ _ (by exact And.left (by assumption))).mono ?_; rintro e w1 ⟨rfl, hb1⟩)
      | (go_at_call 34; refine (WK _).mono ?_; rintro e w1 ⟨rfl, rfl⟩)
      | (go_at_call 35; refine (WT _ _).mono ?_; rintro e w1 ⟨rfl, rfl⟩))
  rename_i W1 B1 W2 B2 W3 B3 hHeld
  have ht0 : wz.drew.there (w.heap.size + 1 + 1) 0 9 := fun j hj => hS0.2.2.2.2.2.2.2.2.2.2 j hj
  have ht : w1.there (w.heap.size + 1 + 1) 0 9 := there_below (there_below (there_below (there_below ht0 B1) B2) B3) hb1
  clear ht0 B1 B2 B3 hb1
  have hin := World.cell?_setCells_in (w.heap.size + 1 + 1) [Value.int .i64 (firstI df ls sn), Value.int .i64 (firstI df ls tg), Value.int .i64 nd, Value.int .i64 wh, Value.int .i64 (firstK ms sn), Value.int .i64 (firstK ms tg), Value.int .i64 (knownI wa), Value.int .i64 (truthI (sn == tg)), Value.int .i64 (truthI op)] 0 w1 (fun j hj => by
    exact (ht j (by rw [hlen9] at hj; exact hj)).1)
  have hfz : ∀ j, j < 9 → (w1.setCells (w.heap.size + 1 + 1) 0 [Value.int .i64 (firstI df ls sn), Value.int .i64 (firstI df ls tg), Value.int .i64 nd, Value.int .i64 wh, Value.int .i64 (firstK ms sn), Value.int .i64 (firstK ms tg), Value.int .i64 (knownI wa), Value.int .i64 (truthI (sn == tg)), Value.int .i64 (truthI op)]).frozen? ⟨w.heap.size + 1 + 1, j, none⟩ = false := fun j hj => by
    have := hHeld.2.2.2.2.2.2.2.2.2.2 j hj
    rw [Nat.zero_add] at this; exact this.2
  have hBl := hHeld.1
  have r0 : (w1.setCells (w.heap.size + 1 + 1) 0 [Value.int .i64 (firstI df ls sn), Value.int .i64 (firstI df ls tg), Value.int .i64 nd, Value.int .i64 wh, Value.int .i64 (firstK ms sn), Value.int .i64 (firstK ms tg), Value.int .i64 (knownI wa), Value.int .i64 (truthI (sn == tg)), Value.int .i64 (truthI op)]).cell? ⟨w.heap.size + 1 + 1, 0, none⟩ = some (.int .i64 (firstI df ls sn)) := hin 0 (by simp)
  have r1 : (w1.setCells (w.heap.size + 1 + 1) 0 [Value.int .i64 (firstI df ls sn), Value.int .i64 (firstI df ls tg), Value.int .i64 nd, Value.int .i64 wh, Value.int .i64 (firstK ms sn), Value.int .i64 (firstK ms tg), Value.int .i64 (knownI wa), Value.int .i64 (truthI (sn == tg)), Value.int .i64 (truthI op)]).cell? ⟨w.heap.size + 1 + 1, 1, none⟩ = some (.int .i64 (firstI df ls tg)) := hin 1 (by simp)
  have r2 : (w1.setCells (w.heap.size + 1 + 1) 0 [Value.int .i64 (firstI df ls sn), Value.int .i64 (firstI df ls tg), Value.int .i64 nd, Value.int .i64 wh, Value.int .i64 (firstK ms sn), Value.int .i64 (firstK ms tg), Value.int .i64 (knownI wa), Value.int .i64 (truthI (sn == tg)), Value.int .i64 (truthI op)]).cell? ⟨w.heap.size + 1 + 1, 2, none⟩ = some (.int .i64 (nd)) := hin 2 (by simp)
  have r3 : (w1.setCells (w.heap.size + 1 + 1) 0 [Value.int .i64 (firstI df ls sn), Value.int .i64 (firstI df ls tg), Value.int .i64 nd, Value.int .i64 wh, Value.int .i64 (firstK ms sn), Value.int .i64 (firstK ms tg), Value.int .i64 (knownI wa), Value.int .i64 (truthI (sn == tg)), Value.int .i64 (truthI op)]).cell? ⟨w.heap.size + 1 + 1, 3, none⟩ = some (.int .i64 (wh)) := hin 3 (by simp)
  have r4 : (w1.setCells (w.heap.size + 1 + 1) 0 [Value.int .i64 (firstI df ls sn), Value.int .i64 (firstI df ls tg), Value.int .i64 nd, Value.int .i64 wh, Value.int .i64 (firstK ms sn), Value.int .i64 (firstK ms tg), Value.int .i64 (knownI wa), Value.int .i64 (truthI (sn == tg)), Value.int .i64 (truthI op)]).cell? ⟨w.heap.size + 1 + 1, 4, none⟩ = some (.int .i64 (firstK ms sn)) := hin 4 (by simp)
  have r5 : (w1.setCells (w.heap.size + 1 + 1) 0 [Value.int .i64 (firstI df ls sn), Value.int .i64 (firstI df ls tg), Value.int .i64 nd, Value.int .i64 wh, Value.int .i64 (firstK ms sn), Value.int .i64 (firstK ms tg), Value.int .i64 (knownI wa), Value.int .i64 (truthI (sn == tg)), Value.int .i64 (truthI op)]).cell? ⟨w.heap.size + 1 + 1, 5, none⟩ = some (.int .i64 (firstK ms tg)) := hin 5 (by simp)
  have r6 : (w1.setCells (w.heap.size + 1 + 1) 0 [Value.int .i64 (firstI df ls sn), Value.int .i64 (firstI df ls tg), Value.int .i64 nd, Value.int .i64 wh, Value.int .i64 (firstK ms sn), Value.int .i64 (firstK ms tg), Value.int .i64 (knownI wa), Value.int .i64 (truthI (sn == tg)), Value.int .i64 (truthI op)]).cell? ⟨w.heap.size + 1 + 1, 6, none⟩ = some (.int .i64 (knownI wa)) := hin 6 (by simp)
  have r7 : (w1.setCells (w.heap.size + 1 + 1) 0 [Value.int .i64 (firstI df ls sn), Value.int .i64 (firstI df ls tg), Value.int .i64 nd, Value.int .i64 wh, Value.int .i64 (firstK ms sn), Value.int .i64 (firstK ms tg), Value.int .i64 (knownI wa), Value.int .i64 (truthI (sn == tg)), Value.int .i64 (truthI op)]).cell? ⟨w.heap.size + 1 + 1, 7, none⟩ = some (.int .i64 (truthI (sn == tg))) := hin 7 (by simp)
  have r8 : (w1.setCells (w.heap.size + 1 + 1) 0 [Value.int .i64 (firstI df ls sn), Value.int .i64 (firstI df ls tg), Value.int .i64 nd, Value.int .i64 wh, Value.int .i64 (firstK ms sn), Value.int .i64 (firstK ms tg), Value.int .i64 (knownI wa), Value.int .i64 (truthI (sn == tg)), Value.int .i64 (truthI op)]).cell? ⟨w.heap.size + 1 + 1, 8, none⟩ = some (.int .i64 (truthI op)) := hin 8 (by simp)
  have HN : Hid _ := And.intro hBl hfz
  clear hin ht hBl hfz KP KD KS WL WI WK WT hS0 hlen9 hone9 hsz9
  generalize (w1.setCells (w.heap.size + 1 + 1) 0 [Value.int .i64 (firstI df ls sn), Value.int .i64 (firstI df ls tg), Value.int .i64 nd, Value.int .i64 wh, Value.int .i64 (firstK ms sn), Value.int .i64 (firstK ms tg), Value.int .i64 (knownI wa), Value.int .i64 (truthI (sn == tg)), Value.int .i64 (truthI op)]) = wf at r0 r1 r2 r3 r4 r5 r6 r7 r8 HN ⊢
  generalize firstI df ls sn = y0 at r0 HF ⊢
  generalize firstI df ls tg = y1 at r1 HF ⊢
  generalize firstK ms sn = y4 at r4 HF ⊢
  generalize firstK ms tg = y5 at r5 HF ⊢
  generalize knownI wa = y6 at r6 HF ⊢
  generalize truthI (sn == tg) = y7 at r7 HF ⊢
  generalize truthI op = y8 at r8 HF ⊢
  go_wp2_with fail
  refine bodyPost_ret (v := .agg #[.int .i64 y0, .int .i64 y1, .int .i64 nd, .int .i64 wh, .int .i64 y4, .int .i64 y5, .int .i64 y6, .int .i64 y7, .int .i64 y8]) (by simp [results, Tryd.results21, go_sem, r0, r1, r2, r3, r4, r5, r6, r7, r8]) rfl ?_
  exact ⟨by rw [HF.out]; rfl, HN.out.1⟩
end Go.Proofs.YtfkdailfcmnjlaaDoor

namespace Go.Proofs.YtfkdailfcmnjlaaDoor
open Go Go.RowKit
set_option maxRecDepth 100000
attribute [local go_sem ↓] Go.wp_at_zero Go.wp_at_succ

theorem run_copy_wide {P : Program} (w : World) (dT sT ty elem : TypeId) (b o dLen dCap : Nat) (sp : Option Addr) (sLen sCap sz : Nat) (cs : List Value)
    (hu : P.underlying dT = some (.slice elem)) (hs : (P.info? elem).map (·.size) = some sz) (hn : cs.length = Nat.min sLen dLen * sz)
    (hsrc : 0 < cs.length → ∃ a, sp = some a ∧ ∀ j v, cs[j]? = some v → w.cell? (a.add j) = some v) (hc : ∀ j, j < cs.length → (w.cell? ⟨b, o + j, none⟩).isSome = true) (hf : ∀ j, j < cs.length → w.frozen? ⟨b, o + j, none⟩ = false) (h1 : ∀ v ∈ cs, v.oneCell' = true) :
    (Builtin.copy_ #[dT, sT] ty #[.slice (some ⟨b, o, none⟩) dLen dCap, .slice sp sLen sCap]).run P w = .ok (goInt (Nat.min sLen dLen)) (w.setCells b o cs) := by
  have hst := run_storeCells_cells (P := P) b o cs 0 w (by simpa using hc) (by simpa using hf) h1
  cases hq : P.info? elem with
  | none => simp [hq] at hs
  | some i =>
    have hi : i.size = sz := by simpa [hq] using hs
    by_cases h0 : 0 < cs.length
    · obtain ⟨a, rfl, hsrc'⟩ := hsrc h0
      have hl := run_loadCells_list (P := P) w a cs hsrc'
      simp [Builtin.copy_, run_underlying hu, Builtin.lenOf, Builtin.firstCells, sizeOf, typeInfo, hq, hi, ← hn, hl, hst]
    · obtain rfl : cs = [] := List.eq_nil_of_length_eq_zero (by omega)
      have hl : ∀ (x : Addr), (loadCells x 0).run P w = .ok #[] w := fun x => by simpa using run_loadCells_list (P := P) w x [] (by simp)
      have hn0 : Nat.min sLen dLen * sz = 0 := by simpa using hn.symm
      cases sp <;> simp [Builtin.copy_, run_underlying hu, Builtin.lenOf, Builtin.firstCells, sizeOf, typeInfo, hq, hi, hn0, storeCells, hl, World.setCells]
theorem wpList_copy_wide {P : Program} {w : World} {ops : Array Oper} {rest : List Oper} {o : Oper} {a : Act} {Q : Exit → Act → World → Prop} (hgd : o.guard = none) (d s : Operand) (dT sT : TypeId)
    (ho : o.op = .call { callee := .builtin .copy, args := #[d, s], argTypes := #[dT, sT] }) (elem : TypeId) (hu : P.underlying dT = some (.slice elem)) (sz : Nat) (hsz : (P.info? elem).map (·.size) = some sz)
    (g off dLen dCap : Nat) (sp : Option Addr) (sLen sCap : Nat) (hd : a.eval d = .slice (some ⟨g, off, none⟩) dLen dCap) (hs : a.eval s = .slice sp sLen sCap)
    (cs : List Value) (hn : cs.length = Nat.min sLen dLen * sz)
    (hsrc : 0 < cs.length → ∃ a, sp = some a ∧ ∀ j v, cs[j]? = some v → w.cell? (a.add j) = some v) (hc : ∀ j, j < cs.length → (w.cell? ⟨g, off + j, none⟩).isSome = true) (hf : ∀ j, j < cs.length → w.frozen? ⟨g, off + j, none⟩ = false) (h1 : ∀ v ∈ cs, v.oneCell' = true)
    (h : wpList P ops Q rest (a.put o.dst (goInt (Nat.min sLen dLen))) (w.setCells g off cs)) : wpList P ops Q (o :: rest) a w := by
  refine wpList_plain hgd fun K hK => ?_
  have hrun := run_copy_wide (P := P) w dT sT o.type elem g off dLen dCap sp sLen sCap sz cs hu hsz hn hsrc hc hf h1
  unfold Oper.wp
  simp [execOp, ho, resolve, invoke, builtin, hd, hs, hrun, Result.andThen]
  exact hK _ _ h
theorem step_copy_wide {P : Program} {ops : Array Oper} {o : Oper} {a : Act} {w : World} {K : Act → World → Prop} {Q : Exit → Act → World → Prop} {E : Prop} (hgd : o.guard = none) (d s : Operand) (dT sT : TypeId)
    (ho : o.op = .call { callee := .builtin .copy, args := #[d, s], argTypes := #[dT, sT] }) (elem : TypeId) (hu : P.underlying dT = some (.slice elem)) (sz : Nat) (hsz : (P.info? elem).map (·.size) = some sz)
    (g off dLen dCap : Nat) (sp : Option Addr) (sLen sCap : Nat) (hd : a.eval d = .slice (some ⟨g, off, none⟩) dLen dCap) (hs : a.eval s = .slice sp sLen sCap)
    (cs : List Value) (hn : cs.length = Nat.min sLen dLen * sz)
    (hsrc : 0 < cs.length → ∃ a, sp = some a ∧ ∀ j v, cs[j]? = some v → w.cell? (a.add j) = some v) (hc : ∀ j, j < cs.length → (w.cell? ⟨g, off + j, none⟩).isSome = true) (hf : ∀ j, j < cs.length → w.frozen? ⟨g, off + j, none⟩ = false) (h1 : ∀ v ∈ cs, v.oneCell' = true)
    (h : K (a.put o.dst (goInt (Nat.min sLen dLen))) (w.setCells g off cs)) :
    if Region.wanted o (yielded ops a.tmps) = true then Oper.wp P o a w K Q else E := by
  have hw : Region.wanted o (yielded ops a.tmps) = true := by simp [Region.wanted, hgd]
  rw [if_pos hw]
  have hrun := run_copy_wide (P := P) w dT sT o.type elem g off dLen dCap sp sLen sCap sz cs hu hsz hn hsrc hc hf h1
  unfold Oper.wp
  simp [execOp, ho, resolve, invoke, builtin, hd, hs, hrun, Result.andThen]
  exact h
theorem run_make_wide {P : Program} (t e : TypeId) (z : Value) (sz bytes : Nat) (ht : P.underlying t = some (.slice e)) (hinfo : (P.info? e).map (fun i => (i.zero, i.size, i.bytes)) = some (some z, sz, bytes))
    (kl kc : IntKind) (n : Nat) (hbytes : bytes * n ≤ 281474976710656) (h63 : n ≤ 9223372036854775807) (w : World) :
    (Instr.makeSlice t (.int kl (n : Int)) (.int kc (n : Int))).run P w = .ok (.slice (some ⟨w.heap.size, 0, none⟩) n n) (w.alloc (.cells (madeCells z.cells (n * sz)) e)) := by
  obtain ⟨i, hi, hzz⟩ := Option.map_eq_some_iff.1 hinfo
  simp only [Prod.mk.injEq] at hzz
  obtain ⟨hz, hs, hb⟩ := hzz
  have hb' : (i.bytes : Int) * (n : Int) ≤ 281474976710656 := by
    have h : ((i.bytes * n : Nat) : Int) ≤ 281474976710656 := by rw [hb]; omega
    rwa [Int.natCast_mul] at h
  have hr := run_make (P := P) w t e i z ht hi hz kl kc n n (by omega) (Int.le_refl _) hb' (by omega)
  simp only [Int.toNat_natCast, hs] at hr
  exact hr
theorem info_level : (Tryd.prog.info? 77).map (fun i => (i.zero, i.size, i.bytes)) = some (some (.agg #[.string ⟨#[]⟩, .int .i64 0]), 2, 24) := by kernel_rfl
theorem info_member : (Tryd.prog.info? 79).map (fun i => (i.zero, i.size, i.bytes)) = some (some (.agg #[.string ⟨#[]⟩, .int .i64 0]), 2, 24) := by kernel_rfl

/-- A row of pairs. -/
structure PairRow (w : World) (g : Nat) (ty : TypeId) (k : Nat) (f : Nat → List UInt8 × Int) : Prop where
  blk : ∃ cs, w.heap[g]? = some (.cells cs ty (0, 0)) ∧ cs.size = k * 2
  fst : ∀ j, j < k → w.cell? ⟨g, j * 2, none⟩ = some (S (f j).1)
  snd : ∀ j, j < k → w.cell? ⟨g, j * 2 + 1, none⟩ = some (.int .i64 (f j).2)
theorem PairRow.frz {w : World} {g : Nat} {ty : TypeId} {k : Nat} {f : Nat → List UInt8 × Int} (h : PairRow w g ty k f) (j : Nat) : w.frozen? ⟨g, j, none⟩ = false := by
  obtain ⟨cs, hc, _⟩ := h.blk
  simp [World.frozen?, hc]
theorem PairRow.of_block {w w' : World} {g : Nat} {ty : TypeId} {k : Nat} {f : Nat → List UInt8 × Int} (h : PairRow w g ty k f) (hb : w'.heap[g]? = w.heap[g]?) : PairRow w' g ty k f :=
  ⟨by rw [hb]; exact h.blk, fun j hj => by rw [World.cell?_of_block (w := w) (a := ⟨g, j * 2, none⟩) hb]; exact h.fst j hj, fun j hj => by rw [World.cell?_of_block (w := w) (a := ⟨g, j * 2 + 1, none⟩) hb]; exact h.snd j hj⟩
theorem PairRow.put {w : World} {g : Nat} {ty : TypeId} {k : Nat} {f f' : Nat → List UInt8 × Int} (h : PairRow w g ty k f) {j : Nat} (hj : j < k) {x : List UInt8} {y : Int} (he : f' j = (x, y)) (ho : ∀ i, i < k → i ≠ j → f' i = f i) : PairRow ((w.setCell ⟨g, j * 2, none⟩ (S x)).setCell ⟨g, j * 2 + 1, none⟩ (.int .i64 y)) g ty k f' := by
  obtain ⟨cs, hc, hs⟩ := h.blk
  have e1 := heap_setCell_same w g (j * 2) cs ty (S x) hc
  have e2 := heap_setCell_same _ g (j * 2 + 1) _ ty (.int .i64 y) e1
  have hcell : ∀ q, ((w.setCell ⟨g, j * 2, none⟩ (S x)).setCell ⟨g, j * 2 + 1, none⟩ (.int .i64 y)).cell? ⟨g, q, none⟩ = if q = j * 2 + 1 then some (.int .i64 y) else if q = j * 2 then some (S x) else w.cell? ⟨g, q, none⟩ := fun q => by
    rw [cell_of_row _ g q _ _ _ e2, cell_of_row w g q _ _ _ hc]
    by_cases a : q = j * 2 + 1
    · subst a; rw [if_pos rfl, Array.getElem?_setIfInBounds, if_pos rfl, if_pos (by simp; omega)]
    · rw [if_neg a]
      by_cases b : q = j * 2
      · subst b; rw [if_pos rfl, Array.getElem?_setIfInBounds_ne (by omega), Array.getElem?_setIfInBounds, if_pos rfl, if_pos (by omega)]
      · rw [if_neg b, Array.getElem?_setIfInBounds_ne (by omega), Array.getElem?_setIfInBounds_ne (by omega)]
  refine ⟨⟨_, e2, by simpa using hs⟩, fun i hi => ?_, fun i hi => ?_⟩
  · rw [hcell]
    by_cases e : i = j
    · subst e; rw [if_neg (by omega), if_pos rfl, he]
    · rw [if_neg (by omega), if_neg (by omega), ho i hi e]; exact h.fst i hi
  · rw [hcell]
    by_cases e : i = j
    · subst e; rw [if_pos rfl, he]
    · rw [if_neg (by omega), if_neg (by omega), ho i hi e]; exact h.snd i hi
/-- The cells of pairs. -/
def pcells (ls : List (List UInt8 × Int)) : List Value := ls.flatMap fun x => [S x.1, .int .i64 x.2]
theorem pcells_len (ls : List (List UInt8 × Int)) : (pcells ls).length = ls.length * 2 := by
  induction ls with
  | nil => rfl
  | cons x r ih => simp [pcells] at ih ⊢; omega
theorem pcells_at (ls : List (List UInt8 × Int)) : ∀ j, j < ls.length → (pcells ls)[j * 2]? = some (S (ls.getD j ([], 0)).1) ∧ (pcells ls)[j * 2 + 1]? = some (.int .i64 (ls.getD j ([], 0)).2) := by
  induction ls with
  | nil => intro j hj; simp at hj
  | cons x r ih =>
    intro j hj
    have e : pcells (x :: r) = S x.1 :: .int .i64 x.2 :: pcells r := rfl
    cases j with
    | zero => rw [e]; exact ⟨rfl, rfl⟩
    | succ j =>
      obtain ⟨a, b⟩ := ih j (by simpa using hj)
      rw [e, show (j + 1) * 2 = j * 2 + 1 + 1 by omega, show j * 2 + 1 + 1 + 1 = (j * 2 + 1) + 1 + 1 by omega]
      simp only [List.getElem?_cons_succ, List.getD_cons_succ]
      exact ⟨a, b⟩
theorem pcells_one (ls : List (List UInt8 × Int)) : ∀ v ∈ pcells ls, v.oneCell' = true := by
  intro v hv
  simp only [pcells, List.mem_flatMap] at hv
  obtain ⟨x, _, hx⟩ := hv
  simp at hx
  rcases hx with rfl | rfl <;> rfl
theorem pcells_src {ls : List (List UInt8 × Int)} {w : World} {a : Option Addr} (h : ∀ i, i < ls.length → ∃ b o, a = some ⟨b, o, none⟩ ∧ w.cell? ⟨b, o + i * 2, none⟩ = some (S (ls.getD i ([], 0)).1) ∧ w.cell? ⟨b, o + i * 2 + 1, none⟩ = some (.int .i64 (ls.getD i ([], 0)).2) ∧ In64 (ls.getD i ([], 0)).2) :
    0 < (pcells ls).length → ∃ ad, a = some ad ∧ ∀ j v, (pcells ls)[j]? = some v → w.cell? (ad.add j) = some v := fun h0 => by
  rw [pcells_len] at h0
  obtain ⟨b, o, e, _⟩ := h 0 (by omega)
  refine ⟨_, e, fun j v hv => ?_⟩
  rw [Addr.add_mid]
  have hj : j < ls.length * 2 := by rw [← pcells_len]; exact (List.getElem?_eq_some_iff.1 hv).1
  obtain ⟨b', o', e', c0, c1, _⟩ := h (j / 2) (by omega)
  rw [e] at e'
  simp at e'
  obtain ⟨rfl, rfl⟩ := e'
  obtain ⟨p0, p1⟩ := pcells_at ls (j / 2) (by omega)
  rcases Nat.mod_two_eq_zero_or_one j with hm | hm
  · have ej : j / 2 * 2 = j := by omega
    rw [ej] at c0 p0
    rw [p0] at hv; simp at hv; rw [← hv]; exact c0
  · have ej : j / 2 * 2 + 1 = j := by omega
    rw [ej] at p1
    rw [show o + j / 2 * 2 + 1 = o + j by omega] at c1
    rw [p1] at hv; simp at hv; rw [← hv]; exact c1
theorem made_pair {w : World} {g : Nat} {ty : TypeId} {k : Nat} (h : w.heap[g]? = some (.cells (madeCells #[.string ⟨#[]⟩, .int .i64 0] (k * 2)) ty (0, 0))) : PairRow w g ty k (fun _ => ([], 0)) := by
  have hc := fun j => cell_of_row w g j _ _ _ h
  refine ⟨⟨_, h, size_madeCells _ _⟩, fun j hj => ?_, fun j hj => ?_⟩
  · have e : j * 2 % 2 = 0 := by omega
    have hl : j * 2 < k * 2 := by omega
    rw [hc]; unfold madeCells; simp [e, hl]
  · have e : (j * 2 + 1) % 2 = 1 := by omega
    have hl : j * 2 + 1 < k * 2 := by omega
    rw [hc]; unfold madeCells; simp [e, hl]
theorem heap_setCells_at {w : World} {g : Nat} {ty : TypeId} : ∀ (vs : List Value) (o : Nat) {w : World} {cs : Array Value}, w.heap[g]? = some (.cells cs ty (0, 0)) → ∃ cs', (w.setCells g o vs).heap[g]? = some (.cells cs' ty (0, 0)) ∧ cs'.size = cs.size
  | [], _, _, cs, h => ⟨cs, h, rfl⟩
  | v :: r, o, w, cs, h => by
    obtain ⟨cs', h1, h2⟩ := heap_setCells_at r (o + 1) (w := w.setCell ⟨g, o, none⟩ v) (heap_setCell_same w g o cs ty v h)
    exact ⟨cs', h1, by rw [h2]; simp⟩
theorem heap_setCells_far {g k : Nat} (h : k ≠ g) : ∀ (vs : List Value) (o : Nat) (w : World), (w.setCells g o vs).heap[k]? = w.heap[k]?
  | [], _, _ => rfl
  | v :: r, o, w => (heap_setCells_far h r (o + 1) _).trans (Below.heap_setCell _ _ _ _ (by simpa using h))
theorem PairRow.copied {w : World} {g : Nat} {ty : TypeId} {k : Nat} {f : Nat → List UInt8 × Int} (h : PairRow w g ty k f) (ls : List (List UInt8 × Int)) (hk : ls.length ≤ k) : PairRow (w.setCells g 0 (pcells ls)) g ty k (fun j => if j < ls.length then ls.getD j ([], 0) else f j) := by
  obtain ⟨cs, hc, hs⟩ := h.blk
  obtain ⟨cs', h1, h2⟩ := heap_setCells_at (g := g) (w := w) (pcells ls) 0 hc
  have hlen := pcells_len ls
  have hsome : ∀ j, j < (pcells ls).length → (w.cell? ⟨g, 0 + j, none⟩).isSome = true := fun j hj => by
    rw [Nat.zero_add, cell_of_row w g j _ _ _ hc]; simp; omega
  have hin := World.cell?_setCells_in g (pcells ls) 0 w hsome
  refine ⟨⟨cs', h1, by omega⟩, fun j hj => ?_, fun j hj => ?_⟩
  · by_cases hjl : j < ls.length
    · rw [if_pos hjl]
      have e := hin (j * 2) (by omega)
      rw [Nat.zero_add] at e
      rw [e, ← List.getElem?_eq_getElem]; exact (pcells_at ls j hjl).1
    · rw [if_neg hjl, World.cell?_setCells_out _ _ _ _ _ (fun _ _ => .inr (by simp only []; omega))]; exact h.fst j hj
  · by_cases hjl : j < ls.length
    · rw [if_pos hjl]
      have e := hin (j * 2 + 1) (by omega)
      rw [Nat.zero_add] at e
      rw [e, ← List.getElem?_eq_getElem]; exact (pcells_at ls j hjl).2
    · rw [if_neg hjl, World.cell?_setCells_out _ _ _ _ _ (fun _ _ => .inr (by simp only []; omega))]; exact h.snd j hj
theorem PairRow.there {w : World} {g : Nat} {ty : TypeId} {k : Nat} {f : Nat → List UInt8 × Int} (h : PairRow w g ty k f) {n : Nat} (hn : n ≤ k * 2) : (∀ j, j < n → (w.cell? ⟨g, 0 + j, none⟩).isSome = true) ∧ ∀ j, j < n → w.frozen? ⟨g, 0 + j, none⟩ = false := by
  obtain ⟨cs, hc, hs⟩ := h.blk
  exact ⟨fun j hj => by rw [Nat.zero_add, cell_of_row w g j _ _ _ hc]; simp; omega, fun j _ => h.frz _⟩
/-- The loan's entries: the list's, and eight behind. -/
def bhd : List UInt8 := [98, 101, 104, 105, 110, 100]
def entL (ls : List (List UInt8 × Int)) (i : Nat) (j : Nat) : List UInt8 × Int := if j < ls.length then ls.getD j ([], 0) else if j < ls.length + i then (bhd, ((j - ls.length : Nat) : Int)) else ([], 0)
end Go.Proofs.YtfkdailfcmnjlaaDoor
