/-
  Every Mean of the program is the document's.
-/
import Derived.Test.YtfkdailfcmnjlaaGreatDoorMJ
import Derived.Deep.RegionHeld3
import Derived.Laws.CopyOwn
import Derived.Deep.DeepCutAuto
import Derived.ProofKit
import Derived.OpenShut
import Derived.Lib.SmallJoins
import Derived.Deep.SlicePairs
set_option linter.unusedVariables false
set_option linter.unusedSimpArgs false
namespace Go.Proofs.YtfkdailfcmnjlaaGreatDoor
open Go Go.RowKit
set_option maxRecDepth 100000
attribute [local go_sem ↓] Go.wp_at_zero Go.wp_at_succ

theorem below_cells {B b : Nat} {a : World} (hb : B ≤ b) : ∀ (vs : List Value) (o : Nat) {w : World}, Below B a w → Below B a (w.setCells b o vs)
  | [], _, _, h => h
  | v :: r, o, w, h => below_cells hb r (o + 1) (h.setCell (by simpa using hb) v)
theorem there_below {w w' : World} {b o n : Nat} (h : w.there b o n) (hb : Below w.heap.size w w') : w'.there b o n := fun j hj => by
  have h1 := h j hj
  have hl : b < w.heap.size := by
    obtain ⟨v, hv⟩ := Option.isSome_iff_exists.1 h1.1
    exact World.block_lt_of_cell? w _ hv
  have e := hb.block b hl
  exact ⟨by rw [World.cell?_of_block (w := w) (a := ⟨b, o + j, none⟩) e]; exact h1.1, by rw [World.frozen?_of_block (w := w) (a := ⟨b, o + j, none⟩) e]; exact h1.2⟩
theorem there_cells {w : World} {b : Nat} {cs : Array Value} {t : TypeId} (h : w.heap[b]? = some (.cells cs t (0, 0))) : w.there b 0 cs.size := fun j hj => by
  rw [Nat.zero_add]
  exact ⟨by rw [cell_of_row w b j _ _ _ h]; simp [hj], by simp [World.frozen?, h]⟩
set_option maxHeartbeats 8000000 in
theorem pfields_any {lv mv : Value} (e : Ev) (s : Stt) (w : World) (h1 : PairsAt lv s.levels w) (h2 : PairsAt mv s.members w) :
    Calls Tryz.prog 40 #[evV e, sttV lv mv s] w fun en w' => en = .returned (flV (fieldsL e s)) ∧ Below w.heap.size w w' := by
  unfold evV sttV
  obtain ⟨sn, tg, wa, nd, wh⟩ := e
  obtain ⟨ls, df, ms, op⟩ := s
  simp only [] at *
  have hol : lv.oneCell' = true := by obtain ⟨_, a, c, rfl, _⟩ := h1; rfl
  have hom : mv.oneCell' = true := by obtain ⟨_, a, c, rfl, _⟩ := h2; rfl
  have hB0 : Below w.heap.size w (((w.alloc (.cells #[S sn, S tg, .int .i64 wa, .int .i64 nd, .int .i64 wh] 46)).alloc (.cells #[lv, .int .i64 df, mv, .bool op] 50)).alloc (.cells #[.int .i64 0, .int .i64 0, .int .i64 0, .int .i64 0, .int .i64 0, .int .i64 0, .int .i64 0, .int .i64 0, .int .i64 0] 114)) := (((Below.refl _ _).alloc (Nat.le_refl _) _).alloc (by simp) _).alloc (by simp; omega) _
  have hX0 : (((w.alloc (.cells #[S sn, S tg, .int .i64 wa, .int .i64 nd, .int .i64 wh] 46)).alloc (.cells #[lv, .int .i64 df, mv, .bool op] 50)).alloc (.cells #[.int .i64 0, .int .i64 0, .int .i64 0, .int .i64 0, .int .i64 0, .int .i64 0, .int .i64 0, .int .i64 0, .int .i64 0] 114)).heap[w.heap.size]? = some (.cells #[S sn, S tg, .int .i64 wa, .int .i64 nd, .int .i64 wh] 46 (0, 0)) := by rw [Below.heap_alloc _ _ _ (by simp; omega), Below.heap_alloc _ _ _ (by simp)]; exact heap_alloc_new w _
  have hP0 : (((w.alloc (.cells #[S sn, S tg, .int .i64 wa, .int .i64 nd, .int .i64 wh] 46)).alloc (.cells #[lv, .int .i64 df, mv, .bool op] 50)).alloc (.cells #[.int .i64 0, .int .i64 0, .int .i64 0, .int .i64 0, .int .i64 0, .int .i64 0, .int .i64 0, .int .i64 0, .int .i64 0] 114)).heap[w.heap.size + 1]? = some (.cells #[lv, .int .i64 df, mv, .bool op] 50 (0, 0)) := by
    rw [Below.heap_alloc _ _ _ (by simp)]
    have e := heap_alloc_new (w.alloc (.cells #[S sn, S tg, .int .i64 wa, .int .i64 nd, .int .i64 wh] 46)) (.cells #[lv, .int .i64 df, mv, .bool op] 50); rw [World.size_alloc] at e; exact e
  have hR0 : (((w.alloc (.cells #[S sn, S tg, .int .i64 wa, .int .i64 nd, .int .i64 wh] 46)).alloc (.cells #[lv, .int .i64 df, mv, .bool op] 50)).alloc (.cells #[.int .i64 0, .int .i64 0, .int .i64 0, .int .i64 0, .int .i64 0, .int .i64 0, .int .i64 0, .int .i64 0, .int .i64 0] 114)).heap[w.heap.size + 1 + 1]? = some (.cells #[.int .i64 0, .int .i64 0, .int .i64 0, .int .i64 0, .int .i64 0, .int .i64 0, .int .i64 0, .int .i64 0, .int .i64 0] 114 (0, 0)) := by
    have e := heap_alloc_new ((w.alloc (.cells #[S sn, S tg, .int .i64 wa, .int .i64 nd, .int .i64 wh] 46)).alloc (.cells #[lv, .int .i64 df, mv, .bool op] 50)) (.cells #[.int .i64 0, .int .i64 0, .int .i64 0, .int .i64 0, .int .i64 0, .int .i64 0, .int .i64 0, .int .i64 0, .int .i64 0] 114); rw [World.size_alloc, World.size_alloc] at e; exact e
  have H0 : Hid _ := And.intro hB0 (And.intro hX0 (And.intro hP0 hR0))
  have WL : ∀ (u : List UInt8) (W : World), Below w.heap.size w W → Calls Tryz.prog 79 #[.agg #[lv, .int .i64 df, mv, .bool op], S u] W fun e w' => e = .returned (.int .i64 (firstI df ls u)) ∧ Below W.heap.size W w' := fun u W hb => plevel_any u W (h1.below hb)
  have WI : ∀ (u : List UInt8) (W : World), Below w.heap.size w W → Calls Tryz.prog 80 #[.agg #[lv, .int .i64 df, mv, .bool op], S u] W fun e w' => e = .returned (.int .i64 (firstK ms u)) ∧ Below W.heap.size W w' := fun u W hb => pstanding_any u W (h2.below hb)
  have WK := fun W => pmember_any wa W
  have WT := fun b W => ptruth_any b W
  have KP : Hid (∀ W W', (Below w.heap.size w W ∧ W.cell? ⟨w.heap.size, 0, none⟩ = some (S sn) ∧ W.cell? ⟨w.heap.size, 1, none⟩ = some (S tg) ∧ W.cell? ⟨w.heap.size, 2, none⟩ = some (.int .i64 wa) ∧ W.cell? ⟨w.heap.size, 3, none⟩ = some (.int .i64 nd) ∧ W.cell? ⟨w.heap.size, 4, none⟩ = some (.int .i64 wh) ∧ W.cell? ⟨w.heap.size + 1, 0, none⟩ = some (lv) ∧ W.cell? ⟨w.heap.size + 1, 1, none⟩ = some (.int .i64 df) ∧ W.cell? ⟨w.heap.size + 1, 2, none⟩ = some (mv) ∧ W.cell? ⟨w.heap.size + 1, 3, none⟩ = some (.bool op) ∧ W.there (w.heap.size + 1 + 1) 0 9) → Below W.heap.size W W' → (Below w.heap.size w W' ∧ W'.cell? ⟨w.heap.size, 0, none⟩ = some (S sn) ∧ W'.cell? ⟨w.heap.size, 1, none⟩ = some (S tg) ∧ W'.cell? ⟨w.heap.size, 2, none⟩ = some (.int .i64 wa) ∧ W'.cell? ⟨w.heap.size, 3, none⟩ = some (.int .i64 nd) ∧ W'.cell? ⟨w.heap.size, 4, none⟩ = some (.int .i64 wh) ∧ W'.cell? ⟨w.heap.size + 1, 0, none⟩ = some (lv) ∧ W'.cell? ⟨w.heap.size + 1, 1, none⟩ = some (.int .i64 df) ∧ W'.cell? ⟨w.heap.size + 1, 2, none⟩ = some (mv) ∧ W'.cell? ⟨w.heap.size + 1, 3, none⟩ = some (.bool op) ∧ W'.there (w.heap.size + 1 + 1) 0 9)) := fun W W' hS hb => by
    obtain ⟨hb0, a0, a1, a2, a3, a4, a5, a6, a7, a8, tt⟩ := hS
    refine ⟨hb0.trans (hb.mono hb0.size), ?_, ?_, ?_, ?_, ?_, ?_, ?_, ?_, ?_, ?_⟩
    all_goals first
      | (rw [hb.cell (World.block_lt_of_cell? W _ (by assumption))]; assumption)
      | exact there_below tt hb
  have KD : Hid (∀ W : World, (Below w.heap.size w W ∧ W.cell? ⟨w.heap.size, 0, none⟩ = some (S sn) ∧ W.cell? ⟨w.heap.size, 1, none⟩ = some (S tg) ∧ W.cell? ⟨w.heap.size, 2, none⟩ = some (.int .i64 wa) ∧ W.cell? ⟨w.heap.size, 3, none⟩ = some (.int .i64 nd) ∧ W.cell? ⟨w.heap.size, 4, none⟩ = some (.int .i64 wh) ∧ W.cell? ⟨w.heap.size + 1, 0, none⟩ = some (lv) ∧ W.cell? ⟨w.heap.size + 1, 1, none⟩ = some (.int .i64 df) ∧ W.cell? ⟨w.heap.size + 1, 2, none⟩ = some (mv) ∧ W.cell? ⟨w.heap.size + 1, 3, none⟩ = some (.bool op) ∧ W.there (w.heap.size + 1 + 1) 0 9) → (Below w.heap.size w W.drew ∧ W.drew.cell? ⟨w.heap.size, 0, none⟩ = some (S sn) ∧ W.drew.cell? ⟨w.heap.size, 1, none⟩ = some (S tg) ∧ W.drew.cell? ⟨w.heap.size, 2, none⟩ = some (.int .i64 wa) ∧ W.drew.cell? ⟨w.heap.size, 3, none⟩ = some (.int .i64 nd) ∧ W.drew.cell? ⟨w.heap.size, 4, none⟩ = some (.int .i64 wh) ∧ W.drew.cell? ⟨w.heap.size + 1, 0, none⟩ = some (lv) ∧ W.drew.cell? ⟨w.heap.size + 1, 1, none⟩ = some (.int .i64 df) ∧ W.drew.cell? ⟨w.heap.size + 1, 2, none⟩ = some (mv) ∧ W.drew.cell? ⟨w.heap.size + 1, 3, none⟩ = some (.bool op) ∧ W.drew.there (w.heap.size + 1 + 1) 0 9)) := fun W hS => by
    obtain ⟨hb0, a0, a1, a2, a3, a4, a5, a6, a7, a8, tt⟩ := hS
    exact ⟨hb0.drew, a0, a1, a2, a3, a4, a5, a6, a7, a8, tt⟩
  have KS : Hid (∀ W vs, (Below w.heap.size w W ∧ W.cell? ⟨w.heap.size, 0, none⟩ = some (S sn) ∧ W.cell? ⟨w.heap.size, 1, none⟩ = some (S tg) ∧ W.cell? ⟨w.heap.size, 2, none⟩ = some (.int .i64 wa) ∧ W.cell? ⟨w.heap.size, 3, none⟩ = some (.int .i64 nd) ∧ W.cell? ⟨w.heap.size, 4, none⟩ = some (.int .i64 wh) ∧ W.cell? ⟨w.heap.size + 1, 0, none⟩ = some (lv) ∧ W.cell? ⟨w.heap.size + 1, 1, none⟩ = some (.int .i64 df) ∧ W.cell? ⟨w.heap.size + 1, 2, none⟩ = some (mv) ∧ W.cell? ⟨w.heap.size + 1, 3, none⟩ = some (.bool op) ∧ W.there (w.heap.size + 1 + 1) 0 9) → (Below w.heap.size w (W.setCells (w.heap.size + 1 + 1) 0 vs) ∧ (W.setCells (w.heap.size + 1 + 1) 0 vs).cell? ⟨w.heap.size, 0, none⟩ = some (S sn) ∧ (W.setCells (w.heap.size + 1 + 1) 0 vs).cell? ⟨w.heap.size, 1, none⟩ = some (S tg) ∧ (W.setCells (w.heap.size + 1 + 1) 0 vs).cell? ⟨w.heap.size, 2, none⟩ = some (.int .i64 wa) ∧ (W.setCells (w.heap.size + 1 + 1) 0 vs).cell? ⟨w.heap.size, 3, none⟩ = some (.int .i64 nd) ∧ (W.setCells (w.heap.size + 1 + 1) 0 vs).cell? ⟨w.heap.size, 4, none⟩ = some (.int .i64 wh) ∧ (W.setCells (w.heap.size + 1 + 1) 0 vs).cell? ⟨w.heap.size + 1, 0, none⟩ = some (lv) ∧ (W.setCells (w.heap.size + 1 + 1) 0 vs).cell? ⟨w.heap.size + 1, 1, none⟩ = some (.int .i64 df) ∧ (W.setCells (w.heap.size + 1 + 1) 0 vs).cell? ⟨w.heap.size + 1, 2, none⟩ = some (mv) ∧ (W.setCells (w.heap.size + 1 + 1) 0 vs).cell? ⟨w.heap.size + 1, 3, none⟩ = some (.bool op) ∧ (W.setCells (w.heap.size + 1 + 1) 0 vs).there (w.heap.size + 1 + 1) 0 9)) := fun W vs hS => by
    obtain ⟨hb0, a0, a1, a2, a3, a4, a5, a6, a7, a8, tt⟩ := hS
    refine ⟨below_cells (by omega) _ _ hb0, ?_, ?_, ?_, ?_, ?_, ?_, ?_, ?_, ?_, ?_⟩
    all_goals first
      | (rw [World.cell?_setCells_out _ _ _ _ _ (fun h => by exfalso; dsimp only at h; omega)]; assumption)
      | exact World.there_setCells tt _ _ _
  have HF : Hid (fieldsL ⟨sn, tg, wa, nd, wh⟩ ⟨ls, df, ms, op⟩ = [firstI df ls sn, firstI df ls tg, nd, wh, firstK ms sn, firstK ms tg, knownI wa, truthI (sn == tg), truthI op]) := rfl
  clear hB0 hX0 hP0 hR0 h1 h2
  go_enter Tryz.func40, Tryz.ntmps40
  go_wp2_with fail
  obtain ⟨hB0, hX0, hP0, hR0⟩ := H0.out
  clear H0
  generalize (((w.alloc (.cells #[S sn, S tg, .int .i64 wa, .int .i64 nd, .int .i64 wh] 46)).alloc (.cells #[lv, .int .i64 df, mv, .bool op] 50)).alloc (.cells #[.int .i64 0, .int .i64 0, .int .i64 0, .int .i64 0, .int .i64 0, .int .i64 0, .int .i64 0, .int .i64 0, .int .i64 0] 114)) = wz at *
  have hS0 : (Below w.heap.size w wz ∧ wz.cell? ⟨w.heap.size, 0, none⟩ = some (S sn) ∧ wz.cell? ⟨w.heap.size, 1, none⟩ = some (S tg) ∧ wz.cell? ⟨w.heap.size, 2, none⟩ = some (.int .i64 wa) ∧ wz.cell? ⟨w.heap.size, 3, none⟩ = some (.int .i64 nd) ∧ wz.cell? ⟨w.heap.size, 4, none⟩ = some (.int .i64 wh) ∧ wz.cell? ⟨w.heap.size + 1, 0, none⟩ = some (lv) ∧ wz.cell? ⟨w.heap.size + 1, 1, none⟩ = some (.int .i64 df) ∧ wz.cell? ⟨w.heap.size + 1, 2, none⟩ = some (mv) ∧ wz.cell? ⟨w.heap.size + 1, 3, none⟩ = some (.bool op) ∧ wz.there (w.heap.size + 1 + 1) 0 9) := by
    refine ⟨hB0, ?_, ?_, ?_, ?_, ?_, ?_, ?_, ?_, ?_, ?_⟩
    all_goals first | (rw [cell_of_row wz w.heap.size _ _ _ _ hX0]; rfl) | (rw [cell_of_row wz (w.heap.size + 1) _ _ _ _ hP0]; rfl) | exact there_cells hR0
  have hlen9 : [Value.int .i64 (firstI df ls sn), Value.int .i64 (firstI df ls tg), Value.int .i64 nd, Value.int .i64 wh, Value.int .i64 (firstK ms sn), Value.int .i64 (firstK ms tg), Value.int .i64 (knownI wa), Value.int .i64 (truthI (sn == tg)), Value.int .i64 (truthI op)].length = 9 := rfl
  have hone9 : ∀ v ∈ [Value.int .i64 (firstI df ls sn), Value.int .i64 (firstI df ls tg), Value.int .i64 nd, Value.int .i64 wh, Value.int .i64 (firstK ms sn), Value.int .i64 (firstK ms tg), Value.int .i64 (knownI wa), Value.int .i64 (truthI (sn == tg)), Value.int .i64 (truthI op)], v.oneCell' = true := by
    intro v hv
    simp only [List.mem_cons, List.not_mem_nil, or_false] at hv
    rcases hv with rfl | rfl | rfl | rfl | rfl | rfl | rfl | rfl | rfl <;> rfl
  have hsz9 : Option.map (fun x => x.size) (Tryz.prog.info? 114) = some 9 := by kernel_rfl
  clear hB0 hX0 hP0 hR0
  go_region_held3 (fun w' => (Below w.heap.size w w' ∧ w'.cell? ⟨w.heap.size, 0, none⟩ = some (S sn) ∧ w'.cell? ⟨w.heap.size, 1, none⟩ = some (S tg) ∧ w'.cell? ⟨w.heap.size, 2, none⟩ = some (.int .i64 wa) ∧ w'.cell? ⟨w.heap.size, 3, none⟩ = some (.int .i64 nd) ∧ w'.cell? ⟨w.heap.size, 4, none⟩ = some (.int .i64 wh) ∧ w'.cell? ⟨w.heap.size + 1, 0, none⟩ = some (lv) ∧ w'.cell? ⟨w.heap.size + 1, 1, none⟩ = some (.int .i64 df) ∧ w'.cell? ⟨w.heap.size + 1, 2, none⟩ = some (mv) ∧ w'.cell? ⟨w.heap.size + 1, 3, none⟩ = some (.bool op) ∧ w'.there (w.heap.size + 1 + 1) 0 9)) (first | with_reducible exact KD.out _ (by assumption) | with_reducible exact KP.out _ _ (by assumption) (by assumption) | with_reducible exact KS.out _ _ (by assumption) | with_reducible assumption | go_keep)
    (first
      | (go_at_call 79; refine (WL _ _ (by exact And.left (by assumption))).mono ?_; rintro e w1 ⟨rfl, hb1⟩)
      | (go_at_call 80; refine (WI _ _ (by exact And.left (by assumption))).mono ?_; rintro e w1 ⟨rfl, hb1⟩)
      | (go_at_call 81; refine (WK _).mono ?_; rintro e w1 ⟨rfl, rfl⟩)
      | (go_at_call 82; refine (WT _ _).mono ?_; rintro e w1 ⟨rfl, rfl⟩))
  rename_i W1 B1 W2 B2 W3 B3 hHeld
  have ht0 : wz.drew.there (w.heap.size + 1 + 1) 0 9 := fun j hj => hS0.2.2.2.2.2.2.2.2.2.2 j hj
  have ht : w1.there (w.heap.size + 1 + 1) 0 9 := there_below (there_below (there_below (there_below ht0 B1) B2) B3) hb1
  clear ht0 B1 B2 B3 hb1
  have hin := World.cell?_setCells_in (w.heap.size + 1 + 1) [Value.int .i64 (firstI df ls sn), Value.int .i64 (firstI df ls tg), Value.int .i64 nd, Value.int .i64 wh, Value.int .i64 (firstK ms sn), Value.int .i64 (firstK ms tg), Value.int .i64 (knownI wa), Value.int .i64 (truthI (sn == tg)), Value.int .i64 (truthI op)] 0 w1 (fun j hj => by
    exact (ht j (by rw [hlen9] at hj; exact hj)).1)
  have hfz : ∀ j, j < 9 → (w1.setCells (w.heap.size + 1 + 1) 0 [Value.int .i64 (firstI df ls sn), Value.int .i64 (firstI df ls tg), Value.int .i64 nd, Value.int .i64 wh, Value.int .i64 (firstK ms sn), Value.int .i64 (firstK ms tg), Value.int .i64 (knownI wa), Value.int .i64 (truthI (sn == tg)), Value.int .i64 (truthI op)]).frozen? ⟨w.heap.size + 1 + 1, j, none⟩ = false := fun j hj => by
    have := hHeld.2.2.2.2.2.2.2.2.2.2 j hj
    rw [Nat.zero_add] at this; exact this.2
  have hBl := hHeld.1
  have r0 : (w1.setCells (w.heap.size + 1 + 1) 0 [Value.int .i64 (firstI df ls sn), Value.int .i64 (firstI df ls tg), Value.int .i64 nd, Value.int .i64 wh, Value.int .i64 (firstK ms sn), Value.int .i64 (firstK ms tg), Value.int .i64 (knownI wa), Value.int .i64 (truthI (sn == tg)), Value.int .i64 (truthI op)]).cell? ⟨w.heap.size + 1 + 1, 0, none⟩ = some (.int .i64 (firstI df ls sn)) := hin 0 (by simp)
  have r1 : (w1.setCells (w.heap.size + 1 + 1) 0 [Value.int .i64 (firstI df ls sn), Value.int .i64 (firstI df ls tg), Value.int .i64 nd, Value.int .i64 wh, Value.int .i64 (firstK ms sn), Value.int .i64 (firstK ms tg), Value.int .i64 (knownI wa), Value.int .i64 (truthI (sn == tg)), Value.int .i64 (truthI op)]).cell? ⟨w.heap.size + 1 + 1, 1, none⟩ = some (.int .i64 (firstI df ls tg)) := hin 1 (by simp)
  have r2 : (w1.setCells (w.heap.size + 1 + 1) 0 [Value.int .i64 (firstI df ls sn), Value.int .i64 (firstI df ls tg), Value.int .i64 nd, Value.int .i64 wh, Value.int .i64 (firstK ms sn), Value.int .i64 (firstK ms tg), Value.int .i64 (knownI wa), Value.int .i64 (truthI (sn == tg)), Value.int .i64 (truthI op)]).cell? ⟨w.heap.size + 1 + 1, 2, none⟩ = some (.int .i64 (nd)) := hin 2 (by simp)
  have r3 : (w1.setCells (w.heap.size + 1 + 1) 0 [Value.int .i64 (firstI df ls sn), Value.int .i64 (firstI df ls tg), Value.int .i64 nd, Value.int .i64 wh, Value.int .i64 (firstK ms sn), Value.int .i64 (firstK ms tg), Value.int .i64 (knownI wa), Value.int .i64 (truthI (sn == tg)), Value.int .i64 (truthI op)]).cell? ⟨w.heap.size + 1 + 1, 3, none⟩ = some (.int .i64 (wh)) := hin 3 (by simp)
  have r4 : (w1.setCells (w.heap.size + 1 + 1) 0 [Value.int .i64 (firstI df ls sn), Value.int .i64 (firstI df ls tg), Value.int .i64 nd, Value.int .i64 wh, Value.int .i64 (firstK ms sn), Value.int .i64 (firstK ms tg), Value.int .i64 (knownI wa), Value.int .i64 (truthI (sn == tg)), Value.int .i64 (truthI op)]).cell? ⟨w.heap.size + 1 + 1, 4, none⟩ = some (.int .i64 (firstK ms sn)) := hin 4 (by simp)
  have r5 : (w1.setCells (w.heap.size + 1 + 1) 0 [Value.int .i64 (firstI df ls sn), Value.int .i64 (firstI df ls tg), Value.int .i64 nd, Value.int .i64 wh, Value.int .i64 (firstK ms sn), Value.int .i64 (firstK ms tg), Value.int .i64 (knownI wa), Value.int .i64 (truthI (sn == tg)), Value.int .i64 (truthI op)]).cell? ⟨w.heap.size + 1 + 1, 5, none⟩ = some (.int .i64 (firstK ms tg)) := hin 5 (by simp)
  have r6 : (w1.setCells (w.heap.size + 1 + 1) 0 [Value.int .i64 (firstI df ls sn), Value.int .i64 (firstI df ls tg), Value.int .i64 nd, Value.int .i64 wh, Value.int .i64 (firstK ms sn), Value.int .i64 (firstK ms tg), Value.int .i64 (knownI wa), Value.int .i64 (truthI (sn == tg)), Value.int .i64 (truthI op)]).cell? ⟨w.heap.size + 1 + 1, 6, none⟩ = some (.int .i64 (knownI wa)) := hin 6 (by simp)
  have r7 : (w1.setCells (w.heap.size + 1 + 1) 0 [Value.int .i64 (firstI df ls sn), Value.int .i64 (firstI df ls tg), Value.int .i64 nd, Value.int .i64 wh, Value.int .i64 (firstK ms sn), Value.int .i64 (firstK ms tg), Value.int .i64 (knownI wa), Value.int .i64 (truthI (sn == tg)), Value.int .i64 (truthI op)]).cell? ⟨w.heap.size + 1 + 1, 7, none⟩ = some (.int .i64 (truthI (sn == tg))) := hin 7 (by simp)
  have r8 : (w1.setCells (w.heap.size + 1 + 1) 0 [Value.int .i64 (firstI df ls sn), Value.int .i64 (firstI df ls tg), Value.int .i64 nd, Value.int .i64 wh, Value.int .i64 (firstK ms sn), Value.int .i64 (firstK ms tg), Value.int .i64 (knownI wa), Value.int .i64 (truthI (sn == tg)), Value.int .i64 (truthI op)]).cell? ⟨w.heap.size + 1 + 1, 8, none⟩ = some (.int .i64 (truthI op)) := hin 8 (by simp)
  have HN : Hid _ := And.intro hBl hfz
  clear hin ht hBl hfz KP KD KS WL WI WK WT hS0 hlen9 hone9 hsz9
  generalize (w1.setCells (w.heap.size + 1 + 1) 0 [Value.int .i64 (firstI df ls sn), Value.int .i64 (firstI df ls tg), Value.int .i64 nd, Value.int .i64 wh, Value.int .i64 (firstK ms sn), Value.int .i64 (firstK ms tg), Value.int .i64 (knownI wa), Value.int .i64 (truthI (sn == tg)), Value.int .i64 (truthI op)]) = wf at r0 r1 r2 r3 r4 r5 r6 r7 r8 HN ⊢
  generalize firstI df ls sn = y0 at r0 HF ⊢
  generalize firstI df ls tg = y1 at r1 HF ⊢
  generalize firstK ms sn = y4 at r4 HF ⊢
  generalize firstK ms tg = y5 at r5 HF ⊢
  generalize knownI wa = y6 at r6 HF ⊢
  generalize truthI (sn == tg) = y7 at r7 HF ⊢
  generalize truthI op = y8 at r8 HF ⊢
  go_wp2_with fail
  refine bodyPost_ret (v := .agg #[.int .i64 y0, .int .i64 y1, .int .i64 nd, .int .i64 wh, .int .i64 y4, .int .i64 y5, .int .i64 y6, .int .i64 y7, .int .i64 y8]) (by simp [results, Tryz.results40, go_sem, r0, r1, r2, r3, r4, r5, r6, r7, r8]) rfl ?_
  exact ⟨by rw [HF.out]; rfl, HN.out.1⟩
end Go.Proofs.YtfkdailfcmnjlaaGreatDoor

namespace Go.Proofs.YtfkdailfcmnjlaaGreatDoor
open Go Go.RowKit
set_option maxRecDepth 100000
attribute [local go_sem ↓] Go.wp_at_zero Go.wp_at_succ

/-- The world as Mean begins. -/
def meanW (w : World) (ev st : Array Value) : World := ((w.alloc (.cells ev 46 (0, 0))).alloc (.cells st 50 (0, 0))).alloc (.cells #[.bool false, .int .i64 0, .int .i64 0] 40 (0, 0))
theorem meanW_facts (w : World) (ev st : Array Value) : Below w.heap.size w (meanW w ev st) ∧ (meanW w ev st).heap[w.heap.size]? = some (.cells ev 46 (0, 0)) ∧ (meanW w ev st).heap[w.heap.size + 1]? = some (.cells st 50 (0, 0)) ∧ (meanW w ev st).heap[w.heap.size + 1 + 1]? = some (.cells #[.bool false, .int .i64 0, .int .i64 0] 40 (0, 0)) := by
  refine ⟨(((Below.refl _ _).alloc (Nat.le_refl _) _).alloc (by simp) _).alloc (by simp; omega) _, ?_, ?_, ?_⟩
  · unfold meanW; rw [Below.heap_alloc _ _ _ (by simp; omega), Below.heap_alloc _ _ _ (by simp)]; exact heap_alloc_new w _
  · unfold meanW; rw [Below.heap_alloc _ _ _ (by simp)]
    have e := heap_alloc_new (w.alloc (.cells ev 46 (0, 0))) (.cells st 50 (0, 0)); rw [World.size_alloc] at e; exact e
  · have e := heap_alloc_new ((w.alloc (.cells ev 46 (0, 0))).alloc (.cells st 50 (0, 0))) (.cells #[.bool false, .int .i64 0, .int .i64 0] 40 (0, 0)); rw [World.size_alloc, World.size_alloc] at e; exact e
theorem PolAt.below {bs : Nat} {L : List Pt} {xs : List Itm} {base : Nat} {v : Value} {ys : List (Tok × Tok × Nat × Int)} {w w' : World} (h : PolAt bs L xs base v ys w) (hb : Below w.heap.size w w') : PolAt bs L xs base v ys w' :=
  ⟨ownsRow_below h.row hb, h.few, h.items.grow hb, h.trees, h.parts, h.tokw, h.names, h.types, h.numb, h.many⟩
set_option maxHeartbeats 4000000 in
theorem mean_prog {lv mv : Value} (l : List UInt8) (e : Ev) (s : Stt) (w : World) (hW : Wd w) (hm : l.length ≤ maxLen) (h1 : PairsAt lv s.levels w) (h2 : PairsAt mv s.members w) (hF : FieldsOK (fieldsL e s)) :
    Calls Tryz.prog 18 #[S l, evV e, sttV lv mv s] w fun en w' => en = .returned (.tuple #[verV (meanOf l (fieldsL e s)), .int .i64 (readOf l).1.1]) ∧ Below w.heap.size w w' := by
  have HR := fun W (h : Below w.heap.size w W) => pread_any l W (Wd.below hW h) hm
  have HK : Hid ((readOf l).1.1 = 0 → MeanOK (readOf l).2.1 (readOf l).2.2) := mean_known l
  have HX : Hid (meanOf l (fieldsL e s) = if (readOf l).1.1 = 0 then (meanL (readOf l).2.2 (fieldsL e s) (readOf l).2.1 (readOf l).2.2 [] 0).getD (false, 0) else (false, 0)) := rfl
  have HFD := fun W (hb : Below w.heap.size w W) => pfields_any e s W (h1.below hb) (h2.below hb)
  have HF : Hid (FieldsOK (fieldsL e s)) := hF
  have HVV : Hid (verV = fun r => .agg #[.bool r.1, .int .i64 r.2, .int .i64 0]) := rfl
  have hol : lv.oneCell' = true := by obtain ⟨_, a, c, rfl, _⟩ := h1; rfl
  have hom : mv.oneCell' = true := by obtain ⟨_, a, c, rfl, _⟩ := h2; rfl
  have hb := read_bound l
  clear h1 h2 hF hW
  generalize fieldsL e s = fl at *
  generalize meanOf l fl = r at *
  generalize (readOf l).1.1 = n at *
  generalize (readOf l).1.2 = k at *
  generalize (readOf l).2.1 = L at *
  generalize (readOf l).2.2 = xs at *
  unfold evV sttV at *
  obtain ⟨sn, tg, wa, nd, wh⟩ := e
  obtain ⟨ls, df, ms, op⟩ := s
  simp only [] at *
  have H0 : Hid _ := meanW_facts w #[S sn, S tg, .int .i64 wa, .int .i64 nd, .int .i64 wh] #[lv, .int .i64 df, mv, .bool op]
  unfold meanW at H0
  go_enter Tryz.func18, Tryz.ntmps18
  go_wp2_with fail
  obtain ⟨hB0, hE0, hS0, hV0⟩ := H0.out
  clear H0
  generalize (((w.alloc (.cells #[S sn, S tg, .int .i64 wa, .int .i64 nd, .int .i64 wh] 46 (0, 0))).alloc (.cells #[lv, .int .i64 df, mv, .bool op] 50 (0, 0))).alloc (.cells #[.bool false, .int .i64 0, .int .i64 0] 40 (0, 0))) = wz at *
  refine (HR _ hB0).mono ?_
  rintro en w1 ⟨hf, v, rfl, hv⟩
  clear HR
  have hB1 : Below w.heap.size w w1 := hB0.trans (hf.mono hB0.size)
  have hE1 := (hf.block _ (lt_of_get hE0)).trans hE0
  have hS1 := (hf.block _ (lt_of_get hS0)).trans hS0
  have hV1 := (hf.block _ (lt_of_get hV0)).trans hV0
  have hwz : w.heap.size ≤ wz.heap.size := hB0.size
  clear hB0 hE0 hS0 hV0
  by_cases h0 : n = 0
  · obtain ⟨bs, ys, hbs, hP⟩ := hv h0
    have hk := HK.out h0
    have HX2 : Hid (r = (meanL xs fl L xs [] 0).getD (false, 0)) := by show _ = _; rw [HX.out, if_pos h0]
    subst h0
    have W1 := HFD w1 hB1
    have W2 : ∀ W, Below w1.heap.size w1 W → Calls Tryz.prog 39 #[v, flV fl] W fun e w' => e = .returned (verV ((meanL xs fl L xs [] 0).getD (false, 0))) ∧ Below W.heap.size W w' := fun W hW => pmean_any (hP.below hW) hk HF.out
    rw [← HX2.out, HVV.out] at W2
    have hvo : v.oneCell' = true := by obtain ⟨a, c, rfl, _⟩ := row_cells hP.row; rfl
    clear hv hP hk HK HX hf HFD
    have e0 := cell_of_row w1 w.heap.size 0 _ _ _ hE1
    have e1 := cell_of_row w1 w.heap.size 1 _ _ _ hE1
    have e2 := cell_of_row w1 w.heap.size 2 _ _ _ hE1
    have e3 := cell_of_row w1 w.heap.size 3 _ _ _ hE1
    have e4 := cell_of_row w1 w.heap.size 4 _ _ _ hE1
    have s0 := cell_of_row w1 (w.heap.size + 1) 0 _ _ _ hS1
    have s1 := cell_of_row w1 (w.heap.size + 1) 1 _ _ _ hS1
    have s2 := cell_of_row w1 (w.heap.size + 1) 2 _ _ _ hS1
    have s3 := cell_of_row w1 (w.heap.size + 1) 3 _ _ _ hS1
    simp only [List.getElem?_toArray, List.getElem?_cons_zero, List.getElem?_cons_succ] at e0 e1 e2 e3 e4 s0 s1 s2 s3
    have HV1 : Hid _ := hV1
    have HB1 : Hid _ := hB1
    clear hE1 hS1 hV1 hB1
    go_wp2_with fail
    refine W1.mono ?_
    rintro en w2 ⟨rfl, hb2⟩
    clear W1 e0 e1 e2 e3 e4 s0 s1 s2 s3
    have W3 := W2 w2 hb2
    clear W2
    generalize flV fl = fv at *
    go_wp2_with fail
    refine W3.mono ?_
    rintro en w3 ⟨rfl, hb3⟩
    clear W3
    have hB3 := HB1.out.trans ((hb2.trans (hb3.mono hb2.size)).mono HB1.out.size)
    have hV3 := ((hb2.trans (hb3.mono hb2.size)).block _ (lt_of_get HV1.out)).trans HV1.out
    obtain ⟨⟨v0, v1, v2⟩, vf⟩ := ver_cells hV3
    have HB3 : Hid _ := hB3
    clear hB3 hV3 hb2 hb3 HV1 HB1
    obtain ⟨ra, rn⟩ := r
    simp only [] at *
    go_wp2_with fail
    refine bodyPost_ret (v := .tuple #[.agg #[.bool ra, .int .i64 rn, .int .i64 0], .int .i64 0]) (by simp [results, Tryz.results18, go_sem, v0, v1, v2, vf]) rfl ?_
    exact ⟨rfl, ((HB3.out.setCell (by simp; omega) _).setCell (by simp; omega) _).setCell (by simp; omega) _⟩
  · have x1 : ((n : Int) == 0) = false := by
      have : ¬ (n : Int) = 0 := by omega
      simpa using this
    have x2 : ((n : Int) != 0) = true := by
      have : ¬ (n : Int) = 0 := by omega
      simpa using this
    have HX2 : Hid (r = (false, 0)) := by show _ = _; rw [HX.out, if_neg h0]
    obtain ⟨⟨v0, v1, v2⟩, vf⟩ := ver_cells hV1
    have HB1 : Hid _ := hB1
    clear hv HK HX hf HFD h0 hE1 hS1 hV1 hB1
    go_wp2_with fail
    refine bodyPost_ret (v := .tuple #[.agg #[.bool false, .int .i64 0, .int .i64 0], .int .i64 n]) (by simp [results, Tryz.results18, go_sem, v0, v1, v2, vf]) rfl ?_
    exact ⟨by rw [HX2.out]; rfl, ((HB1.out.setCell (by simp; omega) _).setCell (by simp; omega) _).setCell (by simp; omega) _⟩
end Go.Proofs.YtfkdailfcmnjlaaGreatDoor

namespace Go.Proofs.YtfkdailfcmnjlaaGreatDoor
open Go Go.RowKit
set_option maxRecDepth 100000
attribute [local go_sem ↓] Go.wp_at_zero Go.wp_at_succ

theorem run_copy_wide {P : Program} (w : World) (dT sT ty elem : TypeId) (b o dLen dCap : Nat) (sp : Option Addr) (sLen sCap sz : Nat) (cs : List Value)
    (hu : P.underlying dT = some (.slice elem)) (hs : (P.info? elem).map (·.size) = some sz) (hn : cs.length = Nat.min sLen dLen * sz)
    (hsrc : 0 < cs.length → ∃ a, sp = some a ∧ ∀ j v, cs[j]? = some v → w.cell? (a.add j) = some v) (hc : ∀ j, j < cs.length → (w.cell? ⟨b, o + j, none⟩).isSome = true) (hf : ∀ j, j < cs.length → w.frozen? ⟨b, o + j, none⟩ = false) (h1 : ∀ v ∈ cs, v.oneCell' = true) :
    (Builtin.copy_ #[dT, sT] ty #[.slice (some ⟨b, o, none⟩) dLen dCap, .slice sp sLen sCap]).run P w = .ok (goInt (Nat.min sLen dLen)) (w.setCells b o cs) := by
  have hst := run_storeCells_cells (P := P) b o cs 0 w (by simpa using hc) (by simpa using hf) h1
  cases hq : P.info? elem with
  | none => simp [hq] at hs
  | some i =>
    have hi : i.size = sz := by simpa [hq] using hs
    by_cases h0 : 0 < cs.length
    · obtain ⟨a, rfl, hsrc'⟩ := hsrc h0
      have hl := run_loadCells_list (P := P) w a cs hsrc'
      simp [Builtin.copy_, run_underlying hu, Builtin.lenOf, Builtin.firstCells, sizeOf, typeInfo, hq, hi, ← hn, hl, hst]
    · obtain rfl : cs = [] := List.eq_nil_of_length_eq_zero (by omega)
      have hl : ∀ (x : Addr), (loadCells x 0).run P w = .ok #[] w := fun x => by simpa using run_loadCells_list (P := P) w x [] (by simp)
      have hn0 : Nat.min sLen dLen * sz = 0 := by simpa using hn.symm
      cases sp <;> simp [Builtin.copy_, run_underlying hu, Builtin.lenOf, Builtin.firstCells, sizeOf, typeInfo, hq, hi, hn0, storeCells, hl, World.setCells]
theorem wpList_copy_wide {P : Program} {w : World} {ops : Array Oper} {rest : List Oper} {o : Oper} {a : Act} {Q : Exit → Act → World → Prop} (hgd : o.guard = none) (d s : Operand) (dT sT : TypeId)
    (ho : o.op = .call { callee := .builtin .copy, args := #[d, s], argTypes := #[dT, sT] }) (elem : TypeId) (hu : P.underlying dT = some (.slice elem)) (sz : Nat) (hsz : (P.info? elem).map (·.size) = some sz)
    (g off dLen dCap : Nat) (sp : Option Addr) (sLen sCap : Nat) (hd : a.eval d = .slice (some ⟨g, off, none⟩) dLen dCap) (hs : a.eval s = .slice sp sLen sCap)
    (cs : List Value) (hn : cs.length = Nat.min sLen dLen * sz)
    (hsrc : 0 < cs.length → ∃ a, sp = some a ∧ ∀ j v, cs[j]? = some v → w.cell? (a.add j) = some v) (hc : ∀ j, j < cs.length → (w.cell? ⟨g, off + j, none⟩).isSome = true) (hf : ∀ j, j < cs.length → w.frozen? ⟨g, off + j, none⟩ = false) (h1 : ∀ v ∈ cs, v.oneCell' = true)
    (h : wpList P ops Q rest (a.put o.dst (goInt (Nat.min sLen dLen))) (w.setCells g off cs)) : wpList P ops Q (o :: rest) a w := by
  refine wpList_plain hgd fun K hK => ?_
  have hrun := run_copy_wide (P := P) w dT sT o.type elem g off dLen dCap sp sLen sCap sz cs hu hsz hn hsrc hc hf h1
  unfold Oper.wp
  simp [execOp, ho, resolve, invoke, builtin, hd, hs, hrun, Result.andThen]
  exact hK _ _ h
theorem step_copy_wide {P : Program} {ops : Array Oper} {o : Oper} {a : Act} {w : World} {K : Act → World → Prop} {Q : Exit → Act → World → Prop} {E : Prop} (hgd : o.guard = none) (d s : Operand) (dT sT : TypeId)
    (ho : o.op = .call { callee := .builtin .copy, args := #[d, s], argTypes := #[dT, sT] }) (elem : TypeId) (hu : P.underlying dT = some (.slice elem)) (sz : Nat) (hsz : (P.info? elem).map (·.size) = some sz)
    (g off dLen dCap : Nat) (sp : Option Addr) (sLen sCap : Nat) (hd : a.eval d = .slice (some ⟨g, off, none⟩) dLen dCap) (hs : a.eval s = .slice sp sLen sCap)
    (cs : List Value) (hn : cs.length = Nat.min sLen dLen * sz)
    (hsrc : 0 < cs.length → ∃ a, sp = some a ∧ ∀ j v, cs[j]? = some v → w.cell? (a.add j) = some v) (hc : ∀ j, j < cs.length → (w.cell? ⟨g, off + j, none⟩).isSome = true) (hf : ∀ j, j < cs.length → w.frozen? ⟨g, off + j, none⟩ = false) (h1 : ∀ v ∈ cs, v.oneCell' = true)
    (h : K (a.put o.dst (goInt (Nat.min sLen dLen))) (w.setCells g off cs)) :
    if Region.wanted o (yielded ops a.tmps) = true then Oper.wp P o a w K Q else E := by
  have hw : Region.wanted o (yielded ops a.tmps) = true := by simp [Region.wanted, hgd]
  rw [if_pos hw]
  have hrun := run_copy_wide (P := P) w dT sT o.type elem g off dLen dCap sp sLen sCap sz cs hu hsz hn hsrc hc hf h1
  unfold Oper.wp
  simp [execOp, ho, resolve, invoke, builtin, hd, hs, hrun, Result.andThen]
  exact h
theorem run_make_wide {P : Program} (t e : TypeId) (z : Value) (sz bytes : Nat) (ht : P.underlying t = some (.slice e)) (hinfo : (P.info? e).map (fun i => (i.zero, i.size, i.bytes)) = some (some z, sz, bytes))
    (kl kc : IntKind) (n : Nat) (hbytes : bytes * n ≤ 281474976710656) (h63 : n ≤ 9223372036854775807) (w : World) :
    (Instr.makeSlice t (.int kl (n : Int)) (.int kc (n : Int))).run P w = .ok (.slice (some ⟨w.heap.size, 0, none⟩) n n) (w.alloc (.cells (madeCells z.cells (n * sz)) e)) := by
  obtain ⟨i, hi, hzz⟩ := Option.map_eq_some_iff.1 hinfo
  simp only [Prod.mk.injEq] at hzz
  obtain ⟨hz, hs, hb⟩ := hzz
  have hb' : (i.bytes : Int) * (n : Int) ≤ 281474976710656 := by
    have h : ((i.bytes * n : Nat) : Int) ≤ 281474976710656 := by rw [hb]; omega
    rwa [Int.natCast_mul] at h
  have hr := run_make (P := P) w t e i z ht hi hz kl kc n n (by omega) (Int.le_refl _) hb' (by omega)
  simp only [Int.toNat_natCast, hs] at hr
  exact hr
theorem info_level : (Tryz.prog.info? 108).map (fun i => (i.zero, i.size, i.bytes)) = some (some (.agg #[.string ⟨#[]⟩, .int .i64 0]), 2, 24) := by kernel_rfl
theorem info_member : (Tryz.prog.info? 110).map (fun i => (i.zero, i.size, i.bytes)) = some (some (.agg #[.string ⟨#[]⟩, .int .i64 0]), 2, 24) := by kernel_rfl

/-- A row of pairs. -/
structure PairRow (w : World) (g : Nat) (ty : TypeId) (k : Nat) (f : Nat → List UInt8 × Int) : Prop where
  blk : ∃ cs, w.heap[g]? = some (.cells cs ty (0, 0)) ∧ cs.size = k * 2
  fst : ∀ j, j < k → w.cell? ⟨g, j * 2, none⟩ = some (S (f j).1)
  snd : ∀ j, j < k → w.cell? ⟨g, j * 2 + 1, none⟩ = some (.int .i64 (f j).2)
theorem PairRow.frz {w : World} {g : Nat} {ty : TypeId} {k : Nat} {f : Nat → List UInt8 × Int} (h : PairRow w g ty k f) (j : Nat) : w.frozen? ⟨g, j, none⟩ = false := by
  obtain ⟨cs, hc, _⟩ := h.blk
  simp [World.frozen?, hc]
theorem PairRow.of_block {w w' : World} {g : Nat} {ty : TypeId} {k : Nat} {f : Nat → List UInt8 × Int} (h : PairRow w g ty k f) (hb : w'.heap[g]? = w.heap[g]?) : PairRow w' g ty k f :=
  ⟨by rw [hb]; exact h.blk, fun j hj => by rw [World.cell?_of_block (w := w) (a := ⟨g, j * 2, none⟩) hb]; exact h.fst j hj, fun j hj => by rw [World.cell?_of_block (w := w) (a := ⟨g, j * 2 + 1, none⟩) hb]; exact h.snd j hj⟩
theorem PairRow.put {w : World} {g : Nat} {ty : TypeId} {k : Nat} {f f' : Nat → List UInt8 × Int} (h : PairRow w g ty k f) {j : Nat} (hj : j < k) {x : List UInt8} {y : Int} (he : f' j = (x, y)) (ho : ∀ i, i < k → i ≠ j → f' i = f i) : PairRow ((w.setCell ⟨g, j * 2, none⟩ (S x)).setCell ⟨g, j * 2 + 1, none⟩ (.int .i64 y)) g ty k f' := by
  obtain ⟨cs, hc, hs⟩ := h.blk
  have e1 := heap_setCell_same w g (j * 2) cs ty (S x) hc
  have e2 := heap_setCell_same _ g (j * 2 + 1) _ ty (.int .i64 y) e1
  have hcell : ∀ q, ((w.setCell ⟨g, j * 2, none⟩ (S x)).setCell ⟨g, j * 2 + 1, none⟩ (.int .i64 y)).cell? ⟨g, q, none⟩ = if q = j * 2 + 1 then some (.int .i64 y) else if q = j * 2 then some (S x) else w.cell? ⟨g, q, none⟩ := fun q => by
    rw [cell_of_row _ g q _ _ _ e2, cell_of_row w g q _ _ _ hc]
    by_cases a : q = j * 2 + 1
    · subst a; rw [if_pos rfl, Array.getElem?_setIfInBounds, if_pos rfl, if_pos (by simp; omega)]
    · rw [if_neg a]
      by_cases b : q = j * 2
      · subst b; rw [if_pos rfl, Array.getElem?_setIfInBounds_ne (by omega), Array.getElem?_setIfInBounds, if_pos rfl, if_pos (by omega)]
      · rw [if_neg b, Array.getElem?_setIfInBounds_ne (by omega), Array.getElem?_setIfInBounds_ne (by omega)]
  refine ⟨⟨_, e2, by simpa using hs⟩, fun i hi => ?_, fun i hi => ?_⟩
  · rw [hcell]
    by_cases e : i = j
    · subst e; rw [if_neg (by omega), if_pos rfl, he]
    · rw [if_neg (by omega), if_neg (by omega), ho i hi e]; exact h.fst i hi
  · rw [hcell]
    by_cases e : i = j
    · subst e; rw [if_pos rfl, he]
    · rw [if_neg (by omega), if_neg (by omega), ho i hi e]; exact h.snd i hi
/-- The cells of pairs. -/
def pcells (ls : List (List UInt8 × Int)) : List Value := ls.flatMap fun x => [S x.1, .int .i64 x.2]
theorem pcells_len (ls : List (List UInt8 × Int)) : (pcells ls).length = ls.length * 2 := by
  induction ls with
  | nil => rfl
  | cons x r ih => simp [pcells] at ih ⊢; omega
theorem pcells_at (ls : List (List UInt8 × Int)) : ∀ j, j < ls.length → (pcells ls)[j * 2]? = some (S (ls.getD j ([], 0)).1) ∧ (pcells ls)[j * 2 + 1]? = some (.int .i64 (ls.getD j ([], 0)).2) := by
  induction ls with
  | nil => intro j hj; simp at hj
  | cons x r ih =>
    intro j hj
    have e : pcells (x :: r) = S x.1 :: .int .i64 x.2 :: pcells r := rfl
    cases j with
    | zero => rw [e]; exact ⟨rfl, rfl⟩
    | succ j =>
      obtain ⟨a, b⟩ := ih j (by simpa using hj)
      rw [e, show (j + 1) * 2 = j * 2 + 1 + 1 by omega, show j * 2 + 1 + 1 + 1 = (j * 2 + 1) + 1 + 1 by omega]
      simp only [List.getElem?_cons_succ, List.getD_cons_succ]
      exact ⟨a, b⟩
theorem pcells_one (ls : List (List UInt8 × Int)) : ∀ v ∈ pcells ls, v.oneCell' = true := by
  intro v hv
  simp only [pcells, List.mem_flatMap] at hv
  obtain ⟨x, _, hx⟩ := hv
  simp at hx
  rcases hx with rfl | rfl <;> rfl
theorem pcells_src {ls : List (List UInt8 × Int)} {w : World} {a : Option Addr} (h : ∀ i, i < ls.length → ∃ b o, a = some ⟨b, o, none⟩ ∧ w.cell? ⟨b, o + i * 2, none⟩ = some (S (ls.getD i ([], 0)).1) ∧ w.cell? ⟨b, o + i * 2 + 1, none⟩ = some (.int .i64 (ls.getD i ([], 0)).2) ∧ In64 (ls.getD i ([], 0)).2) :
    0 < (pcells ls).length → ∃ ad, a = some ad ∧ ∀ j v, (pcells ls)[j]? = some v → w.cell? (ad.add j) = some v := fun h0 => by
  rw [pcells_len] at h0
  obtain ⟨b, o, e, _⟩ := h 0 (by omega)
  refine ⟨_, e, fun j v hv => ?_⟩
  rw [Addr.add_mid]
  have hj : j < ls.length * 2 := by rw [← pcells_len]; exact (List.getElem?_eq_some_iff.1 hv).1
  obtain ⟨b', o', e', c0, c1, _⟩ := h (j / 2) (by omega)
  rw [e] at e'
  simp at e'
  obtain ⟨rfl, rfl⟩ := e'
  obtain ⟨p0, p1⟩ := pcells_at ls (j / 2) (by omega)
  rcases Nat.mod_two_eq_zero_or_one j with hm | hm
  · have ej : j / 2 * 2 = j := by omega
    rw [ej] at c0 p0
    rw [p0] at hv; simp at hv; rw [← hv]; exact c0
  · have ej : j / 2 * 2 + 1 = j := by omega
    rw [ej] at p1
    rw [show o + j / 2 * 2 + 1 = o + j by omega] at c1
    rw [p1] at hv; simp at hv; rw [← hv]; exact c1
theorem made_pair {w : World} {g : Nat} {ty : TypeId} {k : Nat} (h : w.heap[g]? = some (.cells (madeCells #[.string ⟨#[]⟩, .int .i64 0] (k * 2)) ty (0, 0))) : PairRow w g ty k (fun _ => ([], 0)) := by
  have hc := fun j => cell_of_row w g j _ _ _ h
  refine ⟨⟨_, h, size_madeCells _ _⟩, fun j hj => ?_, fun j hj => ?_⟩
  · have e : j * 2 % 2 = 0 := by omega
    have hl : j * 2 < k * 2 := by omega
    rw [hc]; unfold madeCells; simp [e, hl]
  · have e : (j * 2 + 1) % 2 = 1 := by omega
    have hl : j * 2 + 1 < k * 2 := by omega
    rw [hc]; unfold madeCells; simp [e, hl]
theorem heap_setCells_at {w : World} {g : Nat} {ty : TypeId} : ∀ (vs : List Value) (o : Nat) {w : World} {cs : Array Value}, w.heap[g]? = some (.cells cs ty (0, 0)) → ∃ cs', (w.setCells g o vs).heap[g]? = some (.cells cs' ty (0, 0)) ∧ cs'.size = cs.size
  | [], _, _, cs, h => ⟨cs, h, rfl⟩
  | v :: r, o, w, cs, h => by
    obtain ⟨cs', h1, h2⟩ := heap_setCells_at r (o + 1) (w := w.setCell ⟨g, o, none⟩ v) (heap_setCell_same w g o cs ty v h)
    exact ⟨cs', h1, by rw [h2]; simp⟩
theorem heap_setCells_far {g k : Nat} (h : k ≠ g) : ∀ (vs : List Value) (o : Nat) (w : World), (w.setCells g o vs).heap[k]? = w.heap[k]?
  | [], _, _ => rfl
  | v :: r, o, w => (heap_setCells_far h r (o + 1) _).trans (Below.heap_setCell _ _ _ _ (by simpa using h))
theorem PairRow.copied {w : World} {g : Nat} {ty : TypeId} {k : Nat} {f : Nat → List UInt8 × Int} (h : PairRow w g ty k f) (ls : List (List UInt8 × Int)) (hk : ls.length ≤ k) : PairRow (w.setCells g 0 (pcells ls)) g ty k (fun j => if j < ls.length then ls.getD j ([], 0) else f j) := by
  obtain ⟨cs, hc, hs⟩ := h.blk
  obtain ⟨cs', h1, h2⟩ := heap_setCells_at (g := g) (w := w) (pcells ls) 0 hc
  have hlen := pcells_len ls
  have hsome : ∀ j, j < (pcells ls).length → (w.cell? ⟨g, 0 + j, none⟩).isSome = true := fun j hj => by
    rw [Nat.zero_add, cell_of_row w g j _ _ _ hc]; simp; omega
  have hin := World.cell?_setCells_in g (pcells ls) 0 w hsome
  refine ⟨⟨cs', h1, by omega⟩, fun j hj => ?_, fun j hj => ?_⟩
  · by_cases hjl : j < ls.length
    · rw [if_pos hjl]
      have e := hin (j * 2) (by omega)
      rw [Nat.zero_add] at e
      rw [e, ← List.getElem?_eq_getElem]; exact (pcells_at ls j hjl).1
    · rw [if_neg hjl, World.cell?_setCells_out _ _ _ _ _ (fun _ _ => .inr (by simp only []; omega))]; exact h.fst j hj
  · by_cases hjl : j < ls.length
    · rw [if_pos hjl]
      have e := hin (j * 2 + 1) (by omega)
      rw [Nat.zero_add] at e
      rw [e, ← List.getElem?_eq_getElem]; exact (pcells_at ls j hjl).2
    · rw [if_neg hjl, World.cell?_setCells_out _ _ _ _ _ (fun _ _ => .inr (by simp only []; omega))]; exact h.snd j hj
theorem PairRow.there {w : World} {g : Nat} {ty : TypeId} {k : Nat} {f : Nat → List UInt8 × Int} (h : PairRow w g ty k f) {n : Nat} (hn : n ≤ k * 2) : (∀ j, j < n → (w.cell? ⟨g, 0 + j, none⟩).isSome = true) ∧ ∀ j, j < n → w.frozen? ⟨g, 0 + j, none⟩ = false := by
  obtain ⟨cs, hc, hs⟩ := h.blk
  exact ⟨fun j hj => by rw [Nat.zero_add, cell_of_row w g j _ _ _ hc]; simp; omega, fun j _ => h.frz _⟩
/-- The loan's entries: the list's, and eight behind. -/
def bhd : List UInt8 := [98, 101, 104, 105, 110, 100]
def entL (ls : List (List UInt8 × Int)) (i : Nat) (j : Nat) : List UInt8 × Int := if j < ls.length then ls.getD j ([], 0) else if j < ls.length + i then (bhd, ((j - ls.length : Nat) : Int)) else ([], 0)
end Go.Proofs.YtfkdailfcmnjlaaGreatDoor

namespace Go.Proofs.YtfkdailfcmnjlaaGreatDoor
open Go Go.RowKit
set_option maxRecDepth 100000
attribute [local go_sem ↓] Go.wp_at_zero Go.wp_at_succ

/-- What the loan lies in. -/
structure LoanAt (w wx : World) (lb g1 g2 n m : Nat) (f1 f2 : Nat → List UInt8 × Int) : Prop where
  bl : Below w.heap.size w wx
  p1 : w.heap.size + 1 < g1
  p2 : w.heap.size + 1 < g2
  p3 : w.heap.size + 1 < lb
  n12 : g1 ≠ g2
  n13 : g1 ≠ lb
  n23 : g2 ≠ lb
  loan : wx.heap[lb]? = some (.cells #[.slice (some ⟨g1, 0, none⟩) (n + 8) (n + 8), .slice (some ⟨g2, 0, none⟩) (m + 8) (m + 8)] 106 (0, 0))
  row1 : PairRow wx g1 108 (n + 8) f1
  row2 : PairRow wx g2 110 (m + 8) f2
theorem LoanAt.set {w wx : World} {lb g1 g2 n m : Nat} {f1 f2 : Nat → List UInt8 × Int} (h : LoanAt w wx lb g1 g2 n m f1 f2) (j : Nat) (v : Value) : LoanAt w (wx.setCell ⟨w.heap.size + 1, j, none⟩ v) lb g1 g2 n m f1 f2 := by
  have e1 := h.p1
  have e2 := h.p2
  have e3 := h.p3
  exact ⟨h.bl.setCell (by simp) _, h.p1, h.p2, h.p3, h.n12, h.n13, h.n23, (Below.heap_setCell _ _ _ _ (by simp; omega)).trans h.loan, h.row1.of_block (Below.heap_setCell _ _ _ _ (by simp; omega)), h.row2.of_block (Below.heap_setCell _ _ _ _ (by simp; omega))⟩
theorem LoanAt.drew {w wx : World} {lb g1 g2 n m : Nat} {f1 f2 : Nat → List UInt8 × Int} (h : LoanAt w wx lb g1 g2 n m f1 f2) : LoanAt w wx.drew lb g1 g2 n m f1 f2 :=
  ⟨h.bl.drew, h.p1, h.p2, h.p3, h.n12, h.n13, h.n23, h.loan, h.row1.of_block rfl, h.row2.of_block rfl⟩
theorem LoanAt.below {w wx wy : World} {lb g1 g2 n m : Nat} {f1 f2 : Nat → List UInt8 × Int} (h : LoanAt w wx lb g1 g2 n m f1 f2) (hb : Below wx.heap.size wx wy) : LoanAt w wy lb g1 g2 n m f1 f2 := by
  obtain ⟨cs1, hc1, _⟩ := h.row1.blk
  obtain ⟨cs2, hc2, _⟩ := h.row2.blk
  exact ⟨h.bl.trans (hb.mono h.bl.size), h.p1, h.p2, h.p3, h.n12, h.n13, h.n23, (hb.block _ (lt_of_get h.loan)).trans h.loan, h.row1.of_block (hb.block _ (lt_of_get hc1)), h.row2.of_block (hb.block _ (lt_of_get hc2))⟩
theorem loan_made (w : World) (n m lb g1 g2 : Nat) {st z : Array Value} {o1 o2 : Obj} (h : (g1 = w.heap.size + 1 + 1 ∧ g2 = w.heap.size + 1 + 1 + 1 ∧ lb = w.heap.size + 1 + 1 + 1 + 1 ∧ o1 = .cells (madeCells #[.string ⟨#[]⟩, .int .i64 0] ((n + 8) * 2)) 108 (0, 0) ∧ o2 = .cells (madeCells #[.string ⟨#[]⟩, .int .i64 0] ((m + 8) * 2)) 110 (0, 0)) ∨ (g1 = w.heap.size + 1 + 1 + 1 ∧ g2 = w.heap.size + 1 + 1 ∧ lb = w.heap.size + 1 + 1 + 1 + 1 ∧ o2 = .cells (madeCells #[.string ⟨#[]⟩, .int .i64 0] ((n + 8) * 2)) 108 (0, 0) ∧ o1 = .cells (madeCells #[.string ⟨#[]⟩, .int .i64 0] ((m + 8) * 2)) 110 (0, 0))) :
    LoanAt w ((((((w.alloc (.cells st 50 (0, 0))).alloc (.cells z 50 (0, 0))).alloc o1).alloc o2).alloc (.cells #[.slice (some ⟨g1, 0, none⟩) (n + 8) (n + 8), .slice (some ⟨g2, 0, none⟩) (m + 8) (m + 8)] 106 (0, 0))).drew) lb g1 g2 n m (fun _ => ([], 0)) (fun _ => ([], 0)) ∧
    ((((((w.alloc (.cells st 50 (0, 0))).alloc (.cells z 50 (0, 0))).alloc o1).alloc o2).alloc (.cells #[.slice (some ⟨g1, 0, none⟩) (n + 8) (n + 8), .slice (some ⟨g2, 0, none⟩) (m + 8) (m + 8)] 106 (0, 0))).drew).heap[w.heap.size]? = some (.cells st 50 (0, 0)) ∧
    ((((((w.alloc (.cells st 50 (0, 0))).alloc (.cells z 50 (0, 0))).alloc o1).alloc o2).alloc (.cells #[.slice (some ⟨g1, 0, none⟩) (n + 8) (n + 8), .slice (some ⟨g2, 0, none⟩) (m + 8) (m + 8)] 106 (0, 0))).drew).heap[w.heap.size + 1]? = some (.cells z 50 (0, 0)) := by
  generalize hol : (Obj.cells #[.slice (some ⟨g1, 0, none⟩) (n + 8) (n + 8), .slice (some ⟨g2, 0, none⟩) (m + 8) (m + 8)] 106 (0, 0)) = ol
  have b0 : ∀ k, k < w.heap.size + 1 + 1 → (((((w.alloc (.cells st 50 (0, 0))).alloc (.cells z 50 (0, 0))).alloc o1).alloc o2).alloc ol).drew.heap[k]? = ((w.alloc (.cells st 50 (0, 0))).alloc (.cells z 50 (0, 0))).heap[k]? := fun k hk => by
    show (((((w.alloc (.cells st 50 (0, 0))).alloc (.cells z 50 (0, 0))).alloc o1).alloc o2).alloc ol).heap[k]? = _
    rw [Below.heap_alloc _ _ _ (by simp; omega), Below.heap_alloc _ _ _ (by simp; omega), Below.heap_alloc _ _ _ (by simp; omega)]
  have e1 : (((((w.alloc (.cells st 50 (0, 0))).alloc (.cells z 50 (0, 0))).alloc o1).alloc o2).alloc ol).drew.heap[w.heap.size + 1 + 1]? = some o1 := by
    show (((((w.alloc (.cells st 50 (0, 0))).alloc (.cells z 50 (0, 0))).alloc o1).alloc o2).alloc ol).heap[_]? = _
    rw [Below.heap_alloc _ _ _ (by simp), Below.heap_alloc _ _ _ (by simp)]
    have e := heap_alloc_new ((w.alloc (.cells st 50 (0, 0))).alloc (.cells z 50 (0, 0))) o1; simp only [World.size_alloc] at e; exact e
  have e2 : (((((w.alloc (.cells st 50 (0, 0))).alloc (.cells z 50 (0, 0))).alloc o1).alloc o2).alloc ol).drew.heap[w.heap.size + 1 + 1 + 1]? = some o2 := by
    show (((((w.alloc (.cells st 50 (0, 0))).alloc (.cells z 50 (0, 0))).alloc o1).alloc o2).alloc ol).heap[_]? = _
    rw [Below.heap_alloc _ _ _ (by simp)]
    have e := heap_alloc_new (((w.alloc (.cells st 50 (0, 0))).alloc (.cells z 50 (0, 0))).alloc o1) o2; simp only [World.size_alloc] at e; exact e
  have e3 : (((((w.alloc (.cells st 50 (0, 0))).alloc (.cells z 50 (0, 0))).alloc o1).alloc o2).alloc ol).drew.heap[w.heap.size + 1 + 1 + 1 + 1]? = some ol := by
    have e := heap_alloc_new ((((w.alloc (.cells st 50 (0, 0))).alloc (.cells z 50 (0, 0))).alloc o1).alloc o2) ol; simp only [World.size_alloc] at e; exact e
  have hB : Below w.heap.size w (((((w.alloc (.cells st 50 (0, 0))).alloc (.cells z 50 (0, 0))).alloc o1).alloc o2).alloc ol).drew := ((((((Below.refl _ _).alloc (Nat.le_refl _) _).alloc (by simp) _).alloc (by simp; omega) _).alloc (by simp; omega) _).alloc (by simp; omega) _).drew
  have hs : (((((w.alloc (.cells st 50 (0, 0))).alloc (.cells z 50 (0, 0))).alloc o1).alloc o2).alloc ol).drew.heap[w.heap.size]? = some (.cells st 50 (0, 0)) := by
    rw [b0 _ (by omega), Below.heap_alloc _ _ _ (by simp)]; exact heap_alloc_new w _
  have hz : (((((w.alloc (.cells st 50 (0, 0))).alloc (.cells z 50 (0, 0))).alloc o1).alloc o2).alloc ol).drew.heap[w.heap.size + 1]? = some (.cells z 50 (0, 0)) := by
    rw [b0 _ (by omega)]
    have e := heap_alloc_new (w.alloc (.cells st 50 (0, 0))) (.cells z 50 (0, 0)); rw [World.size_alloc] at e; exact e
  refine ⟨?_, hs, hz⟩
  rcases h with ⟨rfl, rfl, rfl, rfl, rfl⟩ | ⟨rfl, rfl, rfl, rfl, rfl⟩
  · exact ⟨hB, by omega, by omega, by omega, by omega, by omega, by omega, e3.trans (by rw [hol]), made_pair e1, made_pair e2⟩
  · exact ⟨hB, by omega, by omega, by omega, by omega, by omega, by omega, e3.trans (by rw [hol]), made_pair e2, made_pair e1⟩
set_option maxHeartbeats 4000000 in
theorem lend_any {lv mv : Value} (s : Stt) (w : World) (h1 : PairsAt lv s.levels w) (h2 : PairsAt mv s.members w) (hl : s.levels.length ≤ 5900000000000) (hm : s.members.length ≤ 5900000000000) :
    Calls Tryz.prog 17 #[sttV lv mv s] w fun en w' => ∃ lb g1 g2, en = .returned (.tuple #[.pointer (some ⟨lb, 0, none⟩), .agg #[.slice (some ⟨g1, 0, none⟩) s.levels.length (s.levels.length + 8), .int .i64 s.dflt, .slice (some ⟨g2, 0, none⟩) s.members.length (s.members.length + 8), .bool s.open_]]) ∧ LoanAt w w' lb g1 g2 s.levels.length s.members.length (entL s.levels 8) (entL s.members 8) := by
  unfold sttV
  obtain ⟨_, a1, c1, rfl, hc1⟩ := h1
  obtain ⟨_, a2, c2, rfl, hc2⟩ := h2
  obtain ⟨ls, df, ms, op⟩ := s
  simp only [] at *
  have hmk1 := run_make_wide (P := Tryz.prog) 47 108 (.agg #[.string ⟨#[]⟩, .int .i64 0]) 2 24 Tryz.underlying47 info_level .i64 .i64 (ls.length + 8) (by omega) (by omega)
  have hmk2 := run_make_wide (P := Tryz.prog) 48 110 (.agg #[.string ⟨#[]⟩, .int .i64 0]) 2 24 Tryz.underlying48 info_member .i64 .i64 (ms.length + 8) (by omega) (by omega)
  have q1 : ((ls.length + 8 : Nat) : Int) = (ls.length : Int) + 8 := by omega
  have q2 : ((ms.length + 8 : Nat) : Int) = (ms.length : Int) + 8 := by omega
  rw [q1] at hmk1
  rw [q2] at hmk2
  clear q1 q2
  have hst : ∀ j, ((w.alloc (.cells #[.slice a1 ls.length c1, .int .i64 df, .slice a2 ms.length c2, .bool op] 50)).alloc (.cells #[.slice none 0 0, .int .i64 0, .slice none 0 0, .bool false] 50)).cell? ⟨w.heap.size, j, none⟩ = (#[.slice a1 ls.length c1, .int .i64 df, .slice a2 ms.length c2, .bool op] : Array Value)[j]? := fun j => by
    rw [cell_of_row _ w.heap.size j _ _ _ (by rw [Below.heap_alloc _ _ _ (by simp)]; exact heap_alloc_new w _)]
  have s0 := hst 0
  have s1 := hst 1
  have s2 := hst 2
  have s3 := hst 3
  clear hst
  simp only [List.getElem?_toArray, List.getElem?_cons_zero, List.getElem?_cons_succ] at s0 s1 s2 s3
  have HC1 : Hid _ := hc1
  have HC2 : Hid _ := hc2
  clear hc1 hc2
  go_enter Tryz.func17, Tryz.ntmps17
  go_wp2_with fail
  go_cut [4] (fun lp wx => ∃ lb g1 g2, lp = .pointer (some ⟨lb, 0, none⟩) ∧ LoanAt w wx lb g1 g2 ls.length ms.length (fun _ => ([], 0)) (fun _ => ([], 0)) ∧ wx.heap[w.heap.size]? = some (.cells #[.slice a1 ls.length c1, .int .i64 df, .slice a2 ms.length c2, .bool op] 50 (0, 0)) ∧ wx.heap[w.heap.size + 1]? = some (.cells #[.slice none 0 0, .int .i64 0, .slice none 0 0, .bool false] 50 (0, 0)))
  case first =>
    go_region
    all_goals go_wp2_with fail
    all_goals go_meet
    · refine ⟨w.heap.size + 1 + 1 + 1 + 1, w.heap.size + 1 + 1, w.heap.size + 1 + 1 + 1, rfl, ?_⟩
      exact loan_made w _ _ _ _ _ (.inl ⟨rfl, rfl, rfl, rfl, rfl⟩)
    · refine ⟨w.heap.size + 1 + 1 + 1 + 1, w.heap.size + 1 + 1 + 1, w.heap.size + 1 + 1, rfl, ?_⟩
      exact loan_made w _ _ _ _ _ (.inr ⟨rfl, rfl, rfl, rfl, rfl⟩)
  case rest =>
    obtain ⟨lb, g1, g2, rfl, hLo, hS, hZ⟩ := hcut
    go_wp2_with fail
    have l0 : wc.cell? ⟨lb, 0, none⟩ = _ := cell_of_row wc lb 0 _ _ _ hLo.loan
    have t0 : wc.cell? ⟨w.heap.size, 0, none⟩ = _ := cell_of_row wc w.heap.size 0 _ _ _ hS
    simp only [List.getElem?_toArray, List.getElem?_cons_zero, List.getElem?_cons_succ] at l0 t0
    have hth := hLo.row1.there (n := (pcells ls).length) (by rw [pcells_len]; omega)
    have hsrc : 0 < (pcells ls).length → ∃ ad, a1 = some ad ∧ ∀ j v, (pcells ls)[j]? = some v → wc.cell? (ad.add j) = some v := pcells_src fun i hi => by
      obtain ⟨b, o, e, x0, x1, x2⟩ := HC1.out i hi
      exact ⟨b, o, e, by rw [hLo.bl.cell (p := ⟨b, o + i * 2, none⟩) (World.block_lt_of_cell? w _ x0)]; exact x0, by rw [hLo.bl.cell (p := ⟨b, o + i * 2 + 1, none⟩) (World.block_lt_of_cell? w _ x1)]; exact x1, x2⟩
    have hn1 : (pcells ls).length = Nat.min ls.length (ls.length + 8) * 2 := by
      rw [pcells_len]; congr 1; exact (Nat.min_eq_left (by omega)).symm
    have H2 : Hid (LoanAt w (wc.drew.setCells g1 0 (pcells ls)) lb g1 g2 ls.length ms.length (entL ls 0) (fun _ => ([], 0)) ∧ (wc.drew.setCells g1 0 (pcells ls)).heap[w.heap.size]? = some (.cells #[.slice a1 ls.length c1, .int .i64 df, .slice a2 ms.length c2, .bool op] 50 (0, 0)) ∧ (wc.drew.setCells g1 0 (pcells ls)).heap[w.heap.size + 1]? = some (.cells #[.slice none 0 0, .int .i64 0, .slice none 0 0, .bool false] 50 (0, 0))) := by
      have e1 := hLo.p1
      refine ⟨⟨below_cells (by omega) _ _ hLo.bl.drew, hLo.p1, hLo.p2, hLo.p3, hLo.n12, hLo.n13, hLo.n23, ?_, ?_, ?_⟩, ?_, ?_⟩
      · rw [heap_setCells_far (Ne.symm hLo.n13)]; exact hLo.loan
      · have := (hLo.row1.of_block (w' := wc.drew) rfl).copied ls (by omega)
        refine ⟨this.blk, fun j hj => ?_, fun j hj => ?_⟩
        · rw [this.fst j hj]; unfold entL; split
          · rfl
          · rw [if_neg (by omega)]
        · rw [this.snd j hj]; unfold entL; split
          · rfl
          · rw [if_neg (by omega)]
      · exact hLo.row2.of_block (heap_setCells_far (Ne.symm hLo.n12) _ _ _)
      · rw [heap_setCells_far (by omega)]; exact hS
      · rw [heap_setCells_far (by omega)]; exact hZ
    clear hLo hS hZ
    go_cut [4] (fun lp wx => lp = .pointer (some ⟨lb, 0, none⟩) ∧ wx = wc.drew.setCells g1 0 (pcells ls))
    case first =>
      go_region_law ((refine step_copy_wide rfl _ _ 47 47 rfl 108 Tryz.underlying47 2 (by kernel_rfl) g1 0 (ls.length + 8) (ls.length + 8) a1 ls.length c1 (by rfl) (by rfl) (pcells ls) hn1 hsrc hth.1 hth.2 (pcells_one ls) ?_))
      all_goals (go_wp2_with fail; go_meet; exact ⟨rfl, rfl⟩)
    case rest =>
      obtain ⟨rfl, hwc2⟩ := hcut
      rw [← hwc2] at H2
      clear hwc2 hth hsrc hn1 l0 t0
      obtain ⟨hLo, hS, hZ⟩ := H2.out
      clear H2
      go_wp2_with fail
      have l0 : wc.cell? ⟨lb, 1, none⟩ = _ := cell_of_row wc lb 1 _ _ _ hLo.loan
      have t0 : wc.cell? ⟨w.heap.size, 2, none⟩ = _ := cell_of_row wc w.heap.size 2 _ _ _ hS
      simp only [List.getElem?_toArray, List.getElem?_cons_zero, List.getElem?_cons_succ] at l0 t0
      have hth := hLo.row2.there (n := (pcells ms).length) (by rw [pcells_len]; omega)
      have hsrc : 0 < (pcells ms).length → ∃ ad, a2 = some ad ∧ ∀ j v, (pcells ms)[j]? = some v → wc.cell? (ad.add j) = some v := pcells_src fun i hi => by
        obtain ⟨b, o, e, x0, x1, x2⟩ := HC2.out i hi
        exact ⟨b, o, e, by rw [hLo.bl.cell (p := ⟨b, o + i * 2, none⟩) (World.block_lt_of_cell? w _ x0)]; exact x0, by rw [hLo.bl.cell (p := ⟨b, o + i * 2 + 1, none⟩) (World.block_lt_of_cell? w _ x1)]; exact x1, x2⟩
      have hn1 : (pcells ms).length = Nat.min ms.length (ms.length + 8) * 2 := by
        rw [pcells_len]; congr 1; exact (Nat.min_eq_left (by omega)).symm
      have H2 : Hid (LoanAt w (wc.drew.setCells g2 0 (pcells ms)) lb g1 g2 ls.length ms.length (entL ls 0) (entL ms 0) ∧ (wc.drew.setCells g2 0 (pcells ms)).heap[w.heap.size]? = some (.cells #[.slice a1 ls.length c1, .int .i64 df, .slice a2 ms.length c2, .bool op] 50 (0, 0)) ∧ (wc.drew.setCells g2 0 (pcells ms)).heap[w.heap.size + 1]? = some (.cells #[.slice none 0 0, .int .i64 0, .slice none 0 0, .bool false] 50 (0, 0))) := by
        have e1 := hLo.p2
        refine ⟨⟨below_cells (by omega) _ _ hLo.bl.drew, hLo.p1, hLo.p2, hLo.p3, hLo.n12, hLo.n13, hLo.n23, ?_, ?_, ?_⟩, ?_, ?_⟩
        · rw [heap_setCells_far (Ne.symm hLo.n23)]; exact hLo.loan
        · exact hLo.row1.of_block (heap_setCells_far hLo.n12 _ _ _)
        · have := (hLo.row2.of_block (w' := wc.drew) rfl).copied ms (by omega)
          refine ⟨this.blk, fun j hj => ?_, fun j hj => ?_⟩
          · rw [this.fst j hj]; unfold entL; split
            · rfl
            · rw [if_neg (by omega)]
          · rw [this.snd j hj]; unfold entL; split
            · rfl
            · rw [if_neg (by omega)]
        · rw [heap_setCells_far (by omega)]; exact hS
        · rw [heap_setCells_far (by omega)]; exact hZ
      clear hLo hS hZ
      go_cut [4] (fun lp wx => lp = .pointer (some ⟨lb, 0, none⟩) ∧ wx = wc.drew.setCells g2 0 (pcells ms))
      case first =>
        go_region_law ((refine step_copy_wide rfl _ _ 48 48 rfl 110 Tryz.underlying48 2 (by kernel_rfl) g2 0 (ms.length + 8) (ms.length + 8) a2 ms.length c2 (by rfl) (by rfl) (pcells ms) hn1 hsrc hth.1 hth.2 (pcells_one ms) ?_))
        all_goals (go_wp2_with fail; go_meet; exact ⟨rfl, rfl⟩)
      case rest =>
        obtain ⟨rfl, hwc3⟩ := hcut
        rw [← hwc3] at H2
        clear hwc3 hth hsrc hn1 l0 t0 s0 s1 s2 s3 hmk1 hmk2 HC1 HC2
        go_wp2_with fail
        go_loopw [5] (fun iv wr => ∃ i : Nat, i ≤ 8 ∧ iv = .int .i64 i ∧ Hid (LoanAt w wr lb g1 g2 ls.length ms.length (entL ls i) (entL ms i) ∧ wr.heap[w.heap.size]? = some (.cells #[.slice a1 ls.length c1, .int .i64 df, .slice a2 ms.length c2, .bool op] 50 (0, 0)) ∧ wr.heap[w.heap.size + 1]? = some (.cells #[.slice none 0 0, .int .i64 0, .slice none 0 0, .bool false] 50 (0, 0)))) (fun iv _ => 8 - (intOf iv).toNat)
        case atStart => exact ⟨0, by omega, rfl, H2.out⟩
        case round =>
          obtain ⟨i, hi, rfl, HI⟩ := hrel
          by_cases hlt : i < 8
          · obtain ⟨hLo, hS, hZ⟩ := HI.out
            clear HI
            have l0 : wr.cell? ⟨lb, 0, none⟩ = _ := cell_of_row wr lb 0 _ _ _ hLo.loan
            have l1 : wr.cell? ⟨lb, 1, none⟩ = _ := cell_of_row wr lb 1 _ _ _ hLo.loan
            have t0 : wr.cell? ⟨w.heap.size, 0, none⟩ = _ := cell_of_row wr w.heap.size 0 _ _ _ hS
            have t2 : wr.cell? ⟨w.heap.size, 2, none⟩ = _ := cell_of_row wr w.heap.size 2 _ _ _ hS
            simp only [List.getElem?_toArray, List.getElem?_cons_zero, List.getElem?_cons_succ] at l0 l1 t0 t2
            have r0 := hLo.row1.fst (ls.length + i) (by omega)
            have r1 := hLo.row1.snd (ls.length + i) (by omega)
            have rf := hLo.row1.frz
            have qn : ((ls.length : Int) + (i : Int)).toNat = ls.length + i := by omega
            have b0 : (0 : Int) ≤ (ls.length : Int) + (i : Int) := by omega
            have b1 : (ls.length : Int) + (i : Int) < (ls.length : Int) + 8 := by omega
            have b2 : (i : Int) < 8 := by omega
            have b3 : ¬ ((ls.length : Int) + (i : Int) < 0) := by omega
            have ne1 : g1 ≠ lb := hLo.n13
            have ne2 : g1 ≠ w.heap.size := by have := hLo.p1; omega
            have hLo1 : LoanAt w (((wr.setCell ⟨g1, (ls.length + i) * 2, none⟩ (S bhd)).setCell ⟨g1, (ls.length + i) * 2 + 1, none⟩ (.int .i64 i)).drew) lb g1 g2 ls.length ms.length (entL ls (i + 1)) (entL ms i) := by
              have e1 := hLo.p1
              refine ⟨((hLo.bl.setCell (by simp; omega) _).setCell (by simp; omega) _).drew, hLo.p1, hLo.p2, hLo.p3, hLo.n12, hLo.n13, hLo.n23, ?_, ?_, ?_⟩
              · exact ((Below.heap_setCell _ _ _ _ (by simpa using Ne.symm ne1)).trans (Below.heap_setCell _ _ _ _ (by simpa using Ne.symm ne1))).trans hLo.loan
              · refine (hLo.row1.put (f' := entL ls (i + 1)) (j := ls.length + i) (by omega) (x := bhd) (y := (i : Int)) ?_ ?_).of_block rfl
                · unfold entL; rw [if_neg (by omega), if_pos (by omega), show ls.length + i - ls.length = i by omega]
                · intro q hq hne
                  unfold entL
                  split
                  · rfl
                  · by_cases e : q < ls.length + i
                    · rw [if_pos e, if_pos (by omega)]
                    · rw [if_neg e, if_neg (by omega)]
              · exact hLo.row2.of_block ((Below.heap_setCell _ _ _ _ (by simpa using Ne.symm hLo.n12)).trans (Below.heap_setCell _ _ _ _ (by simpa using Ne.symm hLo.n12)))
            have hS1 : (((wr.setCell ⟨g1, (ls.length + i) * 2, none⟩ (S bhd)).setCell ⟨g1, (ls.length + i) * 2 + 1, none⟩ (.int .i64 i)).drew).heap[w.heap.size]? = _ := ((Below.heap_setCell _ _ _ _ (by simpa using Ne.symm ne2)).trans (Below.heap_setCell _ _ _ _ (by simpa using Ne.symm ne2))).trans hS
            have hZ1 : (((wr.setCell ⟨g1, (ls.length + i) * 2, none⟩ (S bhd)).setCell ⟨g1, (ls.length + i) * 2 + 1, none⟩ (.int .i64 i)).drew).heap[w.heap.size + 1]? = _ := ((Below.heap_setCell _ _ _ _ (by have := hLo.p1; simp; omega)).trans (Below.heap_setCell _ _ _ _ (by have := hLo.p1; simp; omega))).trans hZ
            have H3 : Hid _ := And.intro hLo1 (And.intro hS1 hZ1)
            clear hLo1 hS1 hZ1 hLo hS hZ
            unfold S bhd at H3
            go_wp2_with fail
            go_region
            go_wp2_with fail
            generalize hw1 : (((wr.setCell ⟨g1, (ls.length + i) * 2, none⟩ (.string ⟨#[98, 101, 104, 105, 110, 100]⟩)).setCell ⟨g1, (ls.length + i) * 2 + 1, none⟩ (.int .i64 i)).drew) = w1 at *
            clear hw1 l0 l1 t0 t2 r0 r1 rf qn b0 b1 b2 b3 ne1 ne2
            obtain ⟨hLo, hS, hZ⟩ := H3.out
            clear H3
            have l0 : w1.cell? ⟨lb, 0, none⟩ = _ := cell_of_row w1 lb 0 _ _ _ hLo.loan
            have l1 : w1.cell? ⟨lb, 1, none⟩ = _ := cell_of_row w1 lb 1 _ _ _ hLo.loan
            have t0 : w1.cell? ⟨w.heap.size, 0, none⟩ = _ := cell_of_row w1 w.heap.size 0 _ _ _ hS
            have t2 : w1.cell? ⟨w.heap.size, 2, none⟩ = _ := cell_of_row w1 w.heap.size 2 _ _ _ hS
            simp only [List.getElem?_toArray, List.getElem?_cons_zero, List.getElem?_cons_succ] at l0 l1 t0 t2
            have r0 := hLo.row2.fst (ms.length + i) (by omega)
            have r1 := hLo.row2.snd (ms.length + i) (by omega)
            have rf := hLo.row2.frz
            have qn : ((ms.length : Int) + (i : Int)).toNat = ms.length + i := by omega
            have b0 : (0 : Int) ≤ (ms.length : Int) + (i : Int) := by omega
            have b1 : (ms.length : Int) + (i : Int) < (ms.length : Int) + 8 := by omega
            have b2 : (i : Int) < 8 := by omega
            have b3 : ¬ ((ms.length : Int) + (i : Int) < 0) := by omega
            have ne1 : g2 ≠ lb := hLo.n23
            have ne2 : g2 ≠ w.heap.size := by have := hLo.p2; omega
            have hLo1 : LoanAt w (((w1.setCell ⟨g2, (ms.length + i) * 2, none⟩ (S bhd)).setCell ⟨g2, (ms.length + i) * 2 + 1, none⟩ (.int .i64 i)).drew) lb g1 g2 ls.length ms.length (entL ls (i + 1)) (entL ms (i + 1)) := by
              have e1 := hLo.p2
              refine ⟨((hLo.bl.setCell (by simp; omega) _).setCell (by simp; omega) _).drew, hLo.p1, hLo.p2, hLo.p3, hLo.n12, hLo.n13, hLo.n23, ?_, ?_, ?_⟩
              · exact ((Below.heap_setCell _ _ _ _ (by simpa using Ne.symm ne1)).trans (Below.heap_setCell _ _ _ _ (by simpa using Ne.symm ne1))).trans hLo.loan
              · exact hLo.row1.of_block ((Below.heap_setCell _ _ _ _ (by simpa using hLo.n12)).trans (Below.heap_setCell _ _ _ _ (by simpa using hLo.n12)))
              · refine (hLo.row2.put (f' := entL ms (i + 1)) (j := ms.length + i) (by omega) (x := bhd) (y := (i : Int)) ?_ ?_).of_block rfl
                · unfold entL; rw [if_neg (by omega), if_pos (by omega), show ms.length + i - ms.length = i by omega]
                · intro q hq hne
                  unfold entL
                  split
                  · rfl
                  · by_cases e : q < ms.length + i
                    · rw [if_pos e, if_pos (by omega)]
                    · rw [if_neg e, if_neg (by omega)]
            have hS1 : (((w1.setCell ⟨g2, (ms.length + i) * 2, none⟩ (S bhd)).setCell ⟨g2, (ms.length + i) * 2 + 1, none⟩ (.int .i64 i)).drew).heap[w.heap.size]? = _ := ((Below.heap_setCell _ _ _ _ (by simpa using Ne.symm ne2)).trans (Below.heap_setCell _ _ _ _ (by simpa using Ne.symm ne2))).trans hS
            have hZ1 : (((w1.setCell ⟨g2, (ms.length + i) * 2, none⟩ (S bhd)).setCell ⟨g2, (ms.length + i) * 2 + 1, none⟩ (.int .i64 i)).drew).heap[w.heap.size + 1]? = _ := ((Below.heap_setCell _ _ _ _ (by have := hLo.p2; simp; omega)).trans (Below.heap_setCell _ _ _ _ (by have := hLo.p2; simp; omega))).trans hZ
            have H3 : Hid _ := And.intro hLo1 (And.intro hS1 hZ1)
            clear hLo1 hS1 hZ1 hLo hS hZ
            unfold S bhd at H3
            go_region
            go_wp2_with fail
            go_roundw
            case rel => exact ⟨i + 1, by omega, by simp, H3.out⟩
            case measure => simp [intOf]; omega
          · obtain rfl : i = 8 := by omega
            obtain ⟨hLo, hS, hZ⟩ := HI.out
            clear HI
            have l0 : wr.cell? ⟨lb, 0, none⟩ = _ := cell_of_row wr lb 0 _ _ _ hLo.loan
            have l1 : wr.cell? ⟨lb, 1, none⟩ = _ := cell_of_row wr lb 1 _ _ _ hLo.loan
            have t0 : wr.cell? ⟨w.heap.size, 0, none⟩ = _ := cell_of_row wr w.heap.size 0 _ _ _ hS
            have t1 : wr.cell? ⟨w.heap.size, 1, none⟩ = _ := cell_of_row wr w.heap.size 1 _ _ _ hS
            have t2 : wr.cell? ⟨w.heap.size, 2, none⟩ = _ := cell_of_row wr w.heap.size 2 _ _ _ hS
            have t3 : wr.cell? ⟨w.heap.size, 3, none⟩ = _ := cell_of_row wr w.heap.size 3 _ _ _ hS
            have z0 : wr.cell? ⟨w.heap.size + 1, 0, none⟩ = _ := cell_of_row wr (w.heap.size + 1) 0 _ _ _ hZ
            have z1 : wr.cell? ⟨w.heap.size + 1, 1, none⟩ = _ := cell_of_row wr (w.heap.size + 1) 1 _ _ _ hZ
            have z2 : wr.cell? ⟨w.heap.size + 1, 2, none⟩ = _ := cell_of_row wr (w.heap.size + 1) 2 _ _ _ hZ
            have z3 : wr.cell? ⟨w.heap.size + 1, 3, none⟩ = _ := cell_of_row wr (w.heap.size + 1) 3 _ _ _ hZ
            have zf : ∀ j, wr.frozen? ⟨w.heap.size + 1, j, none⟩ = false := fun j => by simp [World.frozen?, hZ]
            simp only [List.getElem?_toArray, List.getElem?_cons_zero, List.getElem?_cons_succ] at l0 l1 t0 t1 t2 t3 z0 z1 z2 z3
            have HLo : Hid (LoanAt w wr lb g1 g2 ls.length ms.length (entL ls 8) (entL ms 8)) := hLo
            have nb1 : ¬ ls.length + 8 = ls.length := by omega
            have nb2 : (ls.length : Int) ≤ (ls.length : Int) + 8 := by omega
            have nb3 : (ms.length : Int) ≤ (ms.length : Int) + 8 := by omega
            clear hLo hS hZ
            go_wp2_with fail
            go_region
            all_goals go_wp2_with fail
            all_goals refine bodyPost_ret (v := .tuple #[.pointer (some ⟨lb, 0, none⟩), .agg #[.slice (some ⟨g1, 0, none⟩) ls.length (ls.length + 8), .int .i64 df, .slice (some ⟨g2, 0, none⟩) ms.length (ms.length + 8), .bool op]]) (by simp [results, Tryz.results17, go_sem, z0, z1, z2, z3, zf]) rfl ⟨lb, g1, g2, rfl, ?_⟩
            all_goals exact ((((HLo.out.set 0 _).set 1 _).set 2 _).set 3 _).drew
end Go.Proofs.YtfkdailfcmnjlaaGreatDoor

namespace Go.Proofs.YtfkdailfcmnjlaaGreatDoor
open Go Go.RowKit
set_option maxRecDepth 100000
attribute [local go_sem ↓] Go.wp_at_zero Go.wp_at_succ

/-- What is written over. -/
def oth : List UInt8 := [111, 116, 104, 101, 114]
def ovL (ls : List (List UInt8 × Int)) (y : Int) (k : Nat) (j : Nat) : List UInt8 × Int := if j < k then (oth, y) else entL ls 8 j
theorem LoanAt.over1 {w wx : World} {lb g1 g2 n m : Nat} {f1 f2 f1' : Nat → List UInt8 × Int} (h : LoanAt w wx lb g1 g2 n m f1 f2) {j : Nat} (hj : j < n + 8) {x : List UInt8} {y : Int} (he : f1' j = (x, y)) (ho : ∀ i, i < n + 8 → i ≠ j → f1' i = f1 i) : LoanAt w ((wx.setCell ⟨g1, j * 2, none⟩ (S x)).setCell ⟨g1, j * 2 + 1, none⟩ (.int .i64 y)) lb g1 g2 n m f1' f2 := by
  have e1 := h.p1
  exact ⟨(h.bl.setCell (by simp; omega) _).setCell (by simp; omega) _, h.p1, h.p2, h.p3, h.n12, h.n13, h.n23, ((Below.heap_setCell _ _ _ _ (by simpa using Ne.symm h.n13)).trans (Below.heap_setCell _ _ _ _ (by simpa using Ne.symm h.n13))).trans h.loan, h.row1.put hj he ho, h.row2.of_block ((Below.heap_setCell _ _ _ _ (by simpa using Ne.symm h.n12)).trans (Below.heap_setCell _ _ _ _ (by simpa using Ne.symm h.n12)))⟩
theorem LoanAt.over2 {w wx : World} {lb g1 g2 n m : Nat} {f1 f2 f2' : Nat → List UInt8 × Int} (h : LoanAt w wx lb g1 g2 n m f1 f2) {j : Nat} (hj : j < m + 8) {x : List UInt8} {y : Int} (he : f2' j = (x, y)) (ho : ∀ i, i < m + 8 → i ≠ j → f2' i = f2 i) : LoanAt w ((wx.setCell ⟨g2, j * 2, none⟩ (S x)).setCell ⟨g2, j * 2 + 1, none⟩ (.int .i64 y)) lb g1 g2 n m f1 f2' := by
  have e1 := h.p2
  exact ⟨(h.bl.setCell (by simp; omega) _).setCell (by simp; omega) _, h.p1, h.p2, h.p3, h.n12, h.n13, h.n23, ((Below.heap_setCell _ _ _ _ (by simpa using Ne.symm h.n23)).trans (Below.heap_setCell _ _ _ _ (by simpa using Ne.symm h.n23))).trans h.loan, h.row1.of_block ((Below.heap_setCell _ _ _ _ (by simpa using h.n12)).trans (Below.heap_setCell _ _ _ _ (by simpa using h.n12))), h.row2.put hj he ho⟩
/-- All older memory but two rows is as it was. -/
def KeptBut (sb g1 g2 : Nat) (wx wr : World) : Prop := ∀ k, k < sb → k ≠ g1 → k ≠ g2 → wr.heap[k]? = wx.heap[k]?
theorem KeptBut.over {sb g1 g2 g : Nat} {wx wr : World} (h : KeptBut sb g1 g2 wx wr) (hg : g = g1 ∨ g = g2) (hs : sb < wr.heap.size) (i j : Nat) (v u : Value) (o : Obj) : KeptBut sb g1 g2 wx ((((wr.setCell ⟨g, i, none⟩ v).setCell ⟨g, j, none⟩ u).alloc o).drew) := fun k hk h1 h2 => by
  have hne : k ≠ g := by rcases hg with rfl | rfl <;> assumption
  show (((wr.setCell ⟨g, i, none⟩ v).setCell ⟨g, j, none⟩ u).alloc o).heap[k]? = _
  rw [Below.heap_alloc _ _ _ (by simp; omega), Below.heap_setCell _ _ _ _ (by simpa using hne), Below.heap_setCell _ _ _ _ (by simpa using hne)]
  exact h k hk h1 h2
theorem ov_step (ls : List (List UInt8 × Int)) (y : Int) (k : Nat) : ovL ls y (k + 1) k = (oth, y) ∧ (∀ i, i ≠ k → ovL ls y (k + 1) i = ovL ls y k i) ∧ ovL ls y k k = entL ls 8 k := by
  refine ⟨by unfold ovL; rw [if_pos (by omega)], fun i hi => ?_, by unfold ovL; rw [if_neg (by omega)]⟩
  unfold ovL
  by_cases h : i < k
  · rw [if_pos h, if_pos (by omega)]
  · rw [if_neg h, if_neg (by omega)]
set_option maxHeartbeats 8000000 in
theorem back_any {lv mv : Value} (s : Stt) (w wx : World) {lb g1 g2 : Nat} (h1 : PairsAt lv s.levels w) (h2 : PairsAt mv s.members w) (hl : s.levels.length ≤ 5900000000000) (hm : s.members.length ≤ 5900000000000) (hLo : LoanAt w wx lb g1 g2 s.levels.length s.members.length (entL s.levels 8) (entL s.members 8)) :
    Calls Tryz.prog 20 #[.pointer (some ⟨lb, 0, none⟩), sttV lv mv s] wx fun en w' => en = .returned (.bool true) ∧ Below w.heap.size w w' ∧ KeptBut wx.heap.size g1 g2 wx w' := by
  unfold sttV
  obtain ⟨_, a1, c1, rfl, hc1⟩ := h1
  obtain ⟨_, a2, c2, rfl, hc2⟩ := h2
  obtain ⟨ls, df, ms, op⟩ := s
  simp only [] at *
  have HC1 : Hid _ := hc1
  have HC2 : Hid _ := hc2
  have hsb : w.heap.size ≤ wx.heap.size := hLo.bl.size
  have H0 : Hid (LoanAt w (wx.alloc (.cells #[.slice a1 ls.length c1, .int .i64 df, .slice a2 ms.length c2, .bool op] 50 (0, 0))) lb g1 g2 ls.length ms.length (ovL ls 99 0) (entL ms 8) ∧ (wx.alloc (.cells #[.slice a1 ls.length c1, .int .i64 df, .slice a2 ms.length c2, .bool op] 50 (0, 0))).heap[wx.heap.size]? = some (.cells #[.slice a1 ls.length c1, .int .i64 df, .slice a2 ms.length c2, .bool op] 50 (0, 0)) ∧ KeptBut wx.heap.size g1 g2 wx (wx.alloc (.cells #[.slice a1 ls.length c1, .int .i64 df, .slice a2 ms.length c2, .bool op] 50 (0, 0)))) :=
    ⟨hLo.below ((Below.refl _ _).alloc (Nat.le_refl _) _), heap_alloc_new wx _, fun k hk _ _ => Below.heap_alloc wx _ k hk⟩
  have nsb1 : g1 ≠ wx.heap.size := by obtain ⟨cs, hc, _⟩ := hLo.row1.blk; have := lt_of_get hc; omega
  have nsb2 : g2 ≠ wx.heap.size := by obtain ⟨cs, hc, _⟩ := hLo.row2.blk; have := lt_of_get hc; omega
  clear hc1 hc2 hLo
  go_enter Tryz.func20, Tryz.ntmps20
  go_wp2_with fail
  generalize hwz : wx.alloc (.cells #[.slice a1 ls.length c1, .int .i64 df, .slice a2 ms.length c2, .bool op] 50 (0, 0)) = wz at *
  clear hwz
  generalize hsz : wx.heap.size = sb at *
  have HSZ : Hid _ := hsz
  clear hsz
  go_loopw [5, 6] (fun ov iv wr => ∃ k : Nat, k ≤ ls.length + 8 ∧ iv = .int .i64 k ∧ ov = .bool true ∧ Hid (LoanAt w wr lb g1 g2 ls.length ms.length (ovL ls 99 k) (entL ms 8) ∧ wr.heap[sb]? = some (.cells #[.slice a1 ls.length c1, .int .i64 df, .slice a2 ms.length c2, .bool op] 50 (0, 0)) ∧ KeptBut sb g1 g2 wx wr)) (fun _ iv _ => ls.length + 8 - (intOf iv).toNat)
  case atStart => exact ⟨0, by omega, rfl, rfl, H0.out⟩
  case round =>
    obtain ⟨k, hk, rfl, rfl, HI⟩ := hrel
    obtain ⟨hLo, hS, hKp⟩ := HI.out
    have l0 : wr.cell? ⟨lb, 0, none⟩ = _ := cell_of_row wr lb 0 _ _ _ hLo.loan
    have t0 : wr.cell? ⟨sb, 0, none⟩ = _ := cell_of_row wr sb 0 _ _ _ hS
    simp only [List.getElem?_toArray, List.getElem?_cons_zero, List.getElem?_cons_succ] at l0 t0
    by_cases hlt : k < ls.length + 8
    · obtain ⟨o1, o2, o3⟩ := ov_step ls 99 k
      have r0 := hLo.row1.fst k hlt
      have r1 := hLo.row1.snd k hlt
      have rf := hLo.row1.frz
      rw [o3] at r0 r1
      have hbk : (k : Int) < (ls.length : Int) + 8 := by omega
      have b0 : (0 : Int) ≤ (k : Int) := by omega
      by_cases hkn : k < ls.length
      · have hen : entL ls 8 k = ls.getD k ([], 0) := by unfold entL; rw [if_pos hkn]
        obtain ⟨b, o, rfl, x0, x1, x2⟩ := HC1.out k hkn
        have x0' : wr.cell? ⟨b, o + k * 2, none⟩ = some (S (ls.getD k ([], 0)).1) := by rw [hLo.bl.cell (p := ⟨b, o + k * 2, none⟩) (World.block_lt_of_cell? w _ x0)]; exact x0
        have x1' : wr.cell? ⟨b, o + k * 2 + 1, none⟩ = some (.int .i64 (ls.getD k ([], 0)).2) := by rw [hLo.bl.cell (p := ⟨b, o + k * 2 + 1, none⟩) (World.block_lt_of_cell? w _ x1)]; exact x1
        have lbx := World.block_lt_of_cell? wr _ x0'
        have lg := World.block_lt_of_cell? wr _ r0
        have ll := World.block_lt_of_cell? wr _ l0
        have lt := World.block_lt_of_cell? wr _ t0
        simp only [] at lbx lg ll lt
        rw [hen] at r0 r1
        clear x0 x1
        generalize ls.getD k ([], 0) = p at *
        have n1 : wr.heap.size ≠ b := by omega
        have n2 : wr.heap.size ≠ g1 := by omega
        have n3 : wr.heap.size ≠ lb := by omega
        have n4 : wr.heap.size ≠ sb := by omega
        have n1' := n1.symm
        have n2' := n2.symm
        have n3' := n3.symm
        have n4' := n4.symm
        have hbn : (k : Int) < (ls.length : Int) := by omega
        have H4 : Hid (LoanAt w ((((wr.setCell ⟨g1, k * 2, none⟩ (S oth)).setCell ⟨g1, k * 2 + 1, none⟩ (.int .i64 99)).alloc (.cells #[S p.1, .int .i64 p.2] 108 (0, 0))).drew) lb g1 g2 ls.length ms.length (ovL ls 99 (k + 1)) (entL ms 8) ∧ ((((wr.setCell ⟨g1, k * 2, none⟩ (S oth)).setCell ⟨g1, k * 2 + 1, none⟩ (.int .i64 99)).alloc (.cells #[S p.1, .int .i64 p.2] 108 (0, 0))).drew).heap[sb]? = some (.cells #[.slice (some ⟨b, o, none⟩) ls.length c1, .int .i64 df, .slice a2 ms.length c2, .bool op] 50 (0, 0)) ∧ KeptBut sb g1 g2 wx ((((wr.setCell ⟨g1, k * 2, none⟩ (S oth)).setCell ⟨g1, k * 2 + 1, none⟩ (.int .i64 99)).alloc (.cells #[S p.1, .int .i64 p.2] 108 (0, 0))).drew)) :=
          ⟨((hLo.over1 hlt o1 fun i _ hi => o2 i hi).below ((Below.refl _ _).alloc (Nat.le_refl _) _)).drew, (Below.heap_alloc _ _ _ (by simpa using lt)).trans (((Below.heap_setCell _ _ _ _ (by simpa using nsb1.symm)).trans (Below.heap_setCell _ _ _ _ (by simpa using nsb1.symm))).trans hS), hKp.over (.inl rfl) lt _ _ _ _ _⟩
        clear hLo hS HI hKp
        unfold S oth at H4
        go_wp2_with fail
        go_region
        all_goals go_wp2_with fail
        all_goals go_roundw
        case rel => first | exact ⟨k + 1, by omega, by simp, by simp, H4.out⟩ | ((repeat apply Exists.intro); exact ⟨⟨k + 1, by omega, by simp, by simp, H4.out⟩, rfl⟩)
        case measure => simp [intOf]; omega
      · have hen : entL ls 8 k = (bhd, ((k - ls.length : Nat) : Int)) := by unfold entL; rw [if_neg hkn, if_pos (by omega)]
        have lg := World.block_lt_of_cell? wr _ r0
        have ll := World.block_lt_of_cell? wr _ l0
        have lt := World.block_lt_of_cell? wr _ t0
        simp only [] at lg ll lt
        rw [hen] at r0 r1
        simp only [] at r0 r1
        have e9 : ((k - ls.length : Nat) : Int) = (k : Int) - (ls.length : Int) := by omega
        rw [e9] at r1
        clear e9 hen
        have n2 : wr.heap.size ≠ g1 := by omega
        have n3 : wr.heap.size ≠ lb := by omega
        have n4 : wr.heap.size ≠ sb := by omega
        have n2' := n2.symm
        have n3' := n3.symm
        have n4' := n4.symm
        have hbn : ¬ (k : Int) < (ls.length : Int) := by omega
        have H4 : Hid (LoanAt w ((((wr.setCell ⟨g1, k * 2, none⟩ (S oth)).setCell ⟨g1, k * 2 + 1, none⟩ (.int .i64 99)).alloc (.cells #[S bhd, .int .i64 ((k : Int) - (ls.length : Int))] 108 (0, 0))).drew) lb g1 g2 ls.length ms.length (ovL ls 99 (k + 1)) (entL ms 8) ∧ ((((wr.setCell ⟨g1, k * 2, none⟩ (S oth)).setCell ⟨g1, k * 2 + 1, none⟩ (.int .i64 99)).alloc (.cells #[S bhd, .int .i64 ((k : Int) - (ls.length : Int))] 108 (0, 0))).drew).heap[sb]? = some (.cells #[.slice a1 ls.length c1, .int .i64 df, .slice a2 ms.length c2, .bool op] 50 (0, 0)) ∧ KeptBut sb g1 g2 wx ((((wr.setCell ⟨g1, k * 2, none⟩ (S oth)).setCell ⟨g1, k * 2 + 1, none⟩ (.int .i64 99)).alloc (.cells #[S bhd, .int .i64 ((k : Int) - (ls.length : Int))] 108 (0, 0))).drew)) :=
          ⟨((hLo.over1 hlt o1 fun i _ hi => o2 i hi).below ((Below.refl _ _).alloc (Nat.le_refl _) _)).drew, (Below.heap_alloc _ _ _ (by simpa using lt)).trans (((Below.heap_setCell _ _ _ _ (by simpa using nsb1.symm)).trans (Below.heap_setCell _ _ _ _ (by simpa using nsb1.symm))).trans hS), hKp.over (.inl rfl) lt _ _ _ _ _⟩
        clear hLo hS HI hKp
        unfold S bhd at r0
        unfold S oth bhd at H4
        go_wp2_with fail
        go_region
        all_goals go_wp2_with fail
        all_goals go_roundw
        case rel => first | exact ⟨k + 1, by omega, by simp, by simp, H4.out⟩ | ((repeat apply Exists.intro); exact ⟨⟨k + 1, by omega, by simp, by simp, H4.out⟩, rfl⟩)
        case measure => simp [intOf]; omega
    · have hke : k = ls.length + 8 := by omega
      subst hke
      have hq : ((ls.length + 8 : Nat) : Int) = (ls.length : Int) + 8 := by omega
      have H0 : Hid (LoanAt w wr lb g1 g2 ls.length ms.length (ovL ls 99 (ls.length + 8)) (ovL ms 9 0) ∧ wr.heap[sb]? = some (.cells #[.slice a1 ls.length c1, .int .i64 df, .slice a2 ms.length c2, .bool op] 50 (0, 0)) ∧ KeptBut sb g1 g2 wx wr) := ⟨hLo, hS, hKp⟩
      generalize ovL ls 99 (ls.length + 8) = f1 at *
      clear HI hLo hS hKp
      go_wp2_with fail
      go_loopw [5, 8] (fun ov iv wr => ∃ k : Nat, k ≤ ms.length + 8 ∧ iv = .int .i64 k ∧ ov = .bool true ∧ Hid (LoanAt w wr lb g1 g2 ls.length ms.length f1 (ovL ms 9 k) ∧ wr.heap[sb]? = some (.cells #[.slice a1 ls.length c1, .int .i64 df, .slice a2 ms.length c2, .bool op] 50 (0, 0)) ∧ KeptBut sb g1 g2 wx wr)) (fun _ iv _ => ms.length + 8 - (intOf iv).toNat)
      case atStart => exact ⟨0, by omega, rfl, rfl, H0.out⟩
      case round =>
        obtain ⟨k, hk, rfl, rfl, HI⟩ := hrel
        obtain ⟨hLo, hS, hKp⟩ := HI.out
        have l0 : wr.cell? ⟨lb, 1, none⟩ = _ := cell_of_row wr lb 1 _ _ _ hLo.loan
        have t0 : wr.cell? ⟨sb, 2, none⟩ = _ := cell_of_row wr sb 2 _ _ _ hS
        simp only [List.getElem?_toArray, List.getElem?_cons_zero, List.getElem?_cons_succ] at l0 t0
        by_cases hlt : k < ms.length + 8
        · obtain ⟨o1, o2, o3⟩ := ov_step ms 9 k
          have r0 := hLo.row2.fst k hlt
          have r1 := hLo.row2.snd k hlt
          have rf := hLo.row2.frz
          rw [o3] at r0 r1
          have hbk : (k : Int) < (ms.length : Int) + 8 := by omega
          have b0 : (0 : Int) ≤ (k : Int) := by omega
          by_cases hkn : k < ms.length
          · have hen : entL ms 8 k = ms.getD k ([], 0) := by unfold entL; rw [if_pos hkn]
            obtain ⟨b, o, rfl, x0, x1, x2⟩ := HC2.out k hkn
            have x0' : wr.cell? ⟨b, o + k * 2, none⟩ = some (S (ms.getD k ([], 0)).1) := by rw [hLo.bl.cell (p := ⟨b, o + k * 2, none⟩) (World.block_lt_of_cell? w _ x0)]; exact x0
            have x1' : wr.cell? ⟨b, o + k * 2 + 1, none⟩ = some (.int .i64 (ms.getD k ([], 0)).2) := by rw [hLo.bl.cell (p := ⟨b, o + k * 2 + 1, none⟩) (World.block_lt_of_cell? w _ x1)]; exact x1
            have lbx := World.block_lt_of_cell? wr _ x0'
            have lg := World.block_lt_of_cell? wr _ r0
            have ll := World.block_lt_of_cell? wr _ l0
            have lt := World.block_lt_of_cell? wr _ t0
            simp only [] at lbx lg ll lt
            rw [hen] at r0 r1
            clear x0 x1
            generalize ms.getD k ([], 0) = p at *
            have n1 : wr.heap.size ≠ b := by omega
            have n2 : wr.heap.size ≠ g2 := by omega
            have n3 : wr.heap.size ≠ lb := by omega
            have n4 : wr.heap.size ≠ sb := by omega
            have n1' := n1.symm
            have n2' := n2.symm
            have n3' := n3.symm
            have n4' := n4.symm
            have hbn : (k : Int) < (ms.length : Int) := by omega
            have H4 : Hid (LoanAt w ((((wr.setCell ⟨g2, k * 2, none⟩ (S oth)).setCell ⟨g2, k * 2 + 1, none⟩ (.int .i64 9)).alloc (.cells #[S p.1, .int .i64 p.2] 110 (0, 0))).drew) lb g1 g2 ls.length ms.length f1 (ovL ms 9 (k + 1)) ∧ ((((wr.setCell ⟨g2, k * 2, none⟩ (S oth)).setCell ⟨g2, k * 2 + 1, none⟩ (.int .i64 9)).alloc (.cells #[S p.1, .int .i64 p.2] 110 (0, 0))).drew).heap[sb]? = some (.cells #[.slice a1 ls.length c1, .int .i64 df, .slice (some ⟨b, o, none⟩) ms.length c2, .bool op] 50 (0, 0)) ∧ KeptBut sb g1 g2 wx ((((wr.setCell ⟨g2, k * 2, none⟩ (S oth)).setCell ⟨g2, k * 2 + 1, none⟩ (.int .i64 9)).alloc (.cells #[S p.1, .int .i64 p.2] 110 (0, 0))).drew)) :=
              ⟨((hLo.over2 hlt o1 fun i _ hi => o2 i hi).below ((Below.refl _ _).alloc (Nat.le_refl _) _)).drew, (Below.heap_alloc _ _ _ (by simpa using lt)).trans (((Below.heap_setCell _ _ _ _ (by simpa using nsb2.symm)).trans (Below.heap_setCell _ _ _ _ (by simpa using nsb2.symm))).trans hS), hKp.over (.inr rfl) lt _ _ _ _ _⟩
            clear hLo hS HI hKp
            unfold S oth at H4
            go_wp2_with fail
            go_region
            all_goals go_wp2_with fail
            all_goals go_roundw
            case rel => first | exact ⟨k + 1, by omega, by simp, by simp, H4.out⟩ | ((repeat apply Exists.intro); exact ⟨⟨k + 1, by omega, by simp, by simp, H4.out⟩, rfl⟩)
            case measure => simp [intOf]; omega
          · have hen : entL ms 8 k = (bhd, ((k - ms.length : Nat) : Int)) := by unfold entL; rw [if_neg hkn, if_pos (by omega)]
            have lg := World.block_lt_of_cell? wr _ r0
            have ll := World.block_lt_of_cell? wr _ l0
            have lt := World.block_lt_of_cell? wr _ t0
            simp only [] at lg ll lt
            rw [hen] at r0 r1
            simp only [] at r0 r1
            have e9 : ((k - ms.length : Nat) : Int) = (k : Int) - (ms.length : Int) := by omega
            rw [e9] at r1
            clear e9 hen
            have n2 : wr.heap.size ≠ g2 := by omega
            have n3 : wr.heap.size ≠ lb := by omega
            have n4 : wr.heap.size ≠ sb := by omega
            have n2' := n2.symm
            have n3' := n3.symm
            have n4' := n4.symm
            have hbn : ¬ (k : Int) < (ms.length : Int) := by omega
            have H4 : Hid (LoanAt w ((((wr.setCell ⟨g2, k * 2, none⟩ (S oth)).setCell ⟨g2, k * 2 + 1, none⟩ (.int .i64 9)).alloc (.cells #[S bhd, .int .i64 ((k : Int) - (ms.length : Int))] 110 (0, 0))).drew) lb g1 g2 ls.length ms.length f1 (ovL ms 9 (k + 1)) ∧ ((((wr.setCell ⟨g2, k * 2, none⟩ (S oth)).setCell ⟨g2, k * 2 + 1, none⟩ (.int .i64 9)).alloc (.cells #[S bhd, .int .i64 ((k : Int) - (ms.length : Int))] 110 (0, 0))).drew).heap[sb]? = some (.cells #[.slice a1 ls.length c1, .int .i64 df, .slice a2 ms.length c2, .bool op] 50 (0, 0)) ∧ KeptBut sb g1 g2 wx ((((wr.setCell ⟨g2, k * 2, none⟩ (S oth)).setCell ⟨g2, k * 2 + 1, none⟩ (.int .i64 9)).alloc (.cells #[S bhd, .int .i64 ((k : Int) - (ms.length : Int))] 110 (0, 0))).drew)) :=
              ⟨((hLo.over2 hlt o1 fun i _ hi => o2 i hi).below ((Below.refl _ _).alloc (Nat.le_refl _) _)).drew, (Below.heap_alloc _ _ _ (by simpa using lt)).trans (((Below.heap_setCell _ _ _ _ (by simpa using nsb2.symm)).trans (Below.heap_setCell _ _ _ _ (by simpa using nsb2.symm))).trans hS), hKp.over (.inr rfl) lt _ _ _ _ _⟩
            clear hLo hS HI hKp
            unfold S bhd at r0
            unfold S oth bhd at H4
            go_wp2_with fail
            go_region
            all_goals go_wp2_with fail
            all_goals go_roundw
            case rel => first | exact ⟨k + 1, by omega, by simp, by simp, H4.out⟩ | ((repeat apply Exists.intro); exact ⟨⟨k + 1, by omega, by simp, by simp, H4.out⟩, rfl⟩)
            case measure => simp [intOf]; omega
        · have hke : k = ms.length + 8 := by omega
          subst hke
          have hq : ((ms.length + 8 : Nat) : Int) = (ms.length : Int) + 8 := by omega
          have HB : Hid (Below w.heap.size w wr ∧ KeptBut sb g1 g2 wx wr) := ⟨hLo.bl, hKp⟩
          clear HI hLo hS hKp
          go_wp2_with fail
          go_ret
          exact ⟨rfl, HB.out.1, by rw [HSZ.out]; exact HB.out.2⟩
end Go.Proofs.YtfkdailfcmnjlaaGreatDoor

namespace Go.Proofs.YtfkdailfcmnjlaaGreatDoor
open Go Go.RowKit
set_option maxRecDepth 100000
attribute [local go_sem ↓] Go.wp_at_zero Go.wp_at_succ

/-- The lent lists are the lists. -/
theorem LoanAt.pairs {w wx : World} {lb g1 g2 : Nat} {s : Stt} {lv mv : Value} (h : LoanAt w wx lb g1 g2 s.levels.length s.members.length (entL s.levels 8) (entL s.members 8)) (h1 : PairsAt lv s.levels w) (h2 : PairsAt mv s.members w) :
    PairsAt (.slice (some ⟨g1, 0, none⟩) s.levels.length (s.levels.length + 8)) s.levels wx ∧ PairsAt (.slice (some ⟨g2, 0, none⟩) s.members.length (s.members.length + 8)) s.members wx := by
  obtain ⟨n1, a1, c1, _, q1⟩ := h1
  obtain ⟨n2, a2, c2, _, q2⟩ := h2
  refine ⟨⟨n1, _, _, rfl, fun i hi => ?_⟩, ⟨n2, _, _, rfl, fun i hi => ?_⟩⟩
  · obtain ⟨_, _, _, _, _, hn⟩ := q1 i hi
    have e : entL s.levels 8 i = s.levels.getD i ([], 0) := by unfold entL; rw [if_pos hi]
    refine ⟨g1, 0, rfl, ?_, ?_, hn⟩
    · rw [Nat.zero_add, h.row1.fst i (by omega), e]
    · rw [Nat.zero_add, h.row1.snd i (by omega), e]
  · obtain ⟨_, _, _, _, _, hn⟩ := q2 i hi
    have e : entL s.members 8 i = s.members.getD i ([], 0) := by unfold entL; rw [if_pos hi]
    refine ⟨g2, 0, rfl, ?_, ?_, hn⟩
    · rw [Nat.zero_add, h.row2.fst i (by omega), e]
    · rw [Nat.zero_add, h.row2.snd i (by omega), e]
set_option maxHeartbeats 8000000 in
theorem means_any {lv mv : Value} (l : List UInt8) (e : Ev) (s : Stt) (w : World) (hW : Wd w) (hm : l.length ≤ maxLen) (h1 : PairsAt lv s.levels w) (h2 : PairsAt mv s.members w) (hl1 : s.levels.length ≤ 5900000000000) (hl2 : s.members.length ≤ 5900000000000) (hw : In64 e.wants) (hF : FieldsOK (fieldsL e s)) :
    Calls Tryz.prog 6 #[S l, evV e, sttV lv mv s] w fun en w' => en = .returned (.bool true) ∧ Below w.heap.size w w' := by
  have W1 := fun W (h : Below w.heap.size w W) => lend_any s W (h1.below h) (h2.below h) hl1 hl2
  have W2 := fun (W : World) (lv' mv' : Value) (h : Below w.heap.size w W) (p1 : PairsAt lv' s.levels W) (p2 : PairsAt mv' s.members W) => mean_prog l e s W (Wd.below hW h) hm p1 p2 hF
  have W3 := fun (W : World) (h : Below w.heap.size w W) => mean_ref l e s W hm (h1.below h) (h2.below h) hw hF
  have W4 := fun (W WX : World) (lb g1 g2 : Nat) (h : Below w.heap.size w W) (hx : LoanAt W WX lb g1 g2 s.levels.length s.members.length (entL s.levels 8) (entL s.members 8)) => back_any s W WX (h1.below h) (h2.below h) hl1 hl2 hx
  have HPR : Hid (∀ (W WX : World) (lb g1 g2 : Nat), Below w.heap.size w W → LoanAt W WX lb g1 g2 s.levels.length s.members.length (entL s.levels 8) (entL s.members 8) → PairsAt (.slice (some ⟨g1, 0, none⟩) s.levels.length (s.levels.length + 8)) s.levels WX ∧ PairsAt (.slice (some ⟨g2, 0, none⟩) s.members.length (s.members.length + 8)) s.members WX) := fun W WX lb g1 g2 hb hx => hx.pairs (h1.below hb) (h2.below hb)
  have hb := read_bound l
  have HN := fun w => num_any (readOf l).1.1 hb w
  have hol : lv.oneCell' = true := by obtain ⟨_, a, c, rfl, _⟩ := h1; rfl
  have hom : mv.oneCell' = true := by obtain ⟨_, a, c, rfl, _⟩ := h2; rfl
  have HVV : Hid (verV = fun r => .agg #[.bool r.1, .int .i64 r.2, .int .i64 0]) := rfl
  clear h1 h2 hF hW hw hm
  generalize meanOf l (fieldsL e s) = r at *
  generalize (readOf l).1.1 = n at *
  rw [HVV.out] at W2 W3
  obtain ⟨ra, rn⟩ := r
  simp only [] at W2 W3
  unfold evV sttV at *
  obtain ⟨sn, tg, wa, nd, wh⟩ := e
  obtain ⟨ls, df, ms, op⟩ := s
  simp only [] at *
  have H0 : Hid (Below w.heap.size w ((w.alloc (.cells #[S sn, S tg, .int .i64 wa, .int .i64 nd, .int .i64 wh] 46 (0, 0))).alloc (.cells #[lv, .int .i64 df, mv, .bool op] 50 (0, 0))) ∧ ((w.alloc (.cells #[S sn, S tg, .int .i64 wa, .int .i64 nd, .int .i64 wh] 46 (0, 0))).alloc (.cells #[lv, .int .i64 df, mv, .bool op] 50 (0, 0))).heap[w.heap.size]? = some (.cells #[S sn, S tg, .int .i64 wa, .int .i64 nd, .int .i64 wh] 46 (0, 0)) ∧ ((w.alloc (.cells #[S sn, S tg, .int .i64 wa, .int .i64 nd, .int .i64 wh] 46 (0, 0))).alloc (.cells #[lv, .int .i64 df, mv, .bool op] 50 (0, 0))).heap[w.heap.size + 1]? = some (.cells #[lv, .int .i64 df, mv, .bool op] 50 (0, 0))) :=
    ⟨((Below.refl _ _).alloc (Nat.le_refl _) _).alloc (by simp) _, by rw [Below.heap_alloc _ _ _ (by simp)]; exact heap_alloc_new w _, by have e := heap_alloc_new (w.alloc (.cells #[S sn, S tg, .int .i64 wa, .int .i64 nd, .int .i64 wh] 46 (0, 0))) (.cells #[lv, .int .i64 df, mv, .bool op] 50 (0, 0)); rw [World.size_alloc] at e; exact e⟩
  go_enter Tryz.func6, Tryz.ntmps6
  go_wp2_with fail
  obtain ⟨hB0, hE0, hS0⟩ := H0.out
  clear H0
  generalize ((w.alloc (.cells #[S sn, S tg, .int .i64 wa, .int .i64 nd, .int .i64 wh] 46 (0, 0))).alloc (.cells #[lv, .int .i64 df, mv, .bool op] 50 (0, 0))) = wz at *
  refine (W1 wz hB0).mono ?_
  rintro en w1 ⟨lb, g1, g2, rfl, hLo⟩
  clear W1
  have hb1 : Below wz.heap.size wz w1 := hLo.bl
  have hB1 := hB0.trans (hb1.mono hB0.size)
  have hE1 := (hb1.block _ (lt_of_get hE0)).trans hE0
  have hS1 := (hb1.block _ (lt_of_get hS0)).trans hS0
  have hbM : Below w1.heap.size w1 (w1.alloc (.cells #[.slice (some ⟨g1, 0, none⟩) ls.length (ls.length + 8), .int .i64 df, .slice (some ⟨g2, 0, none⟩) ms.length (ms.length + 8), .bool op] 50 (0, 0))) := (Below.refl _ _).alloc (Nat.le_refl _) _
  have hB2 := hB1.trans (hbM.mono hB1.size)
  have hLo2 := hLo.below hbM
  have hE2 := (hbM.block _ (lt_of_get hE1)).trans hE1
  have hS2 := (hbM.block _ (lt_of_get hS1)).trans hS1
  have hM2 : (w1.alloc (.cells #[.slice (some ⟨g1, 0, none⟩) ls.length (ls.length + 8), .int .i64 df, .slice (some ⟨g2, 0, none⟩) ms.length (ms.length + 8), .bool op] 50 (0, 0))).heap[w1.heap.size]? = _ := heap_alloc_new w1 _
  have H2 : Hid _ := And.intro hLo2 (And.intro hB2 (And.intro hE2 (And.intro hS2 hM2)))
  have HB0 : Hid _ := hB0
  have c0 := cell_of_row w1 w.heap.size 0 _ _ _ hE1
  have c1 := cell_of_row w1 w.heap.size 1 _ _ _ hE1
  have c2 := cell_of_row w1 w.heap.size 2 _ _ _ hE1
  have c3 := cell_of_row w1 w.heap.size 3 _ _ _ hE1
  have c4 := cell_of_row w1 w.heap.size 4 _ _ _ hE1
  simp only [List.getElem?_toArray, List.getElem?_cons_zero, List.getElem?_cons_succ] at c0 c1 c2 c3 c4
  have k1 : w.heap.size < w1.heap.size := lt_of_get hE1
  have k2 : w.heap.size ≠ w1.heap.size := by omega
  have k3 : w1.heap.size ≠ w.heap.size := by omega
  clear hLo hb1 hB1 hE1 hS1 hbM hB2 hLo2 hE2 hS2 hM2 hB0 hE0 hS0
  go_wp2_with fail
  obtain ⟨hLo2, hB2, hE2, hS2, hM2⟩ := H2.out
  clear H2 c0 c1 c2 c3 c4 k1 k2 k3
  generalize hbm : w1.heap.size = bm at *
  clear hbm
  generalize (w1.alloc (.cells #[.slice (some ⟨g1, 0, none⟩) ls.length (ls.length + 8), .int .i64 df, .slice (some ⟨g2, 0, none⟩) ms.length (ms.length + 8), .bool op] 50 (0, 0))) = w2 at *
  obtain ⟨p1, p2⟩ := HPR.out wz w2 lb g1 g2 HB0.out hLo2
  refine (W2 w2 _ _ hB2 p1 p2).mono ?_
  rintro en w3 ⟨rfl, hb3⟩
  clear W2 HPR p1 p2
  have hB3 := hB2.trans (hb3.mono hB2.size)
  have hLo3 := hLo2.below hb3
  have hE3 := (hb3.block _ (lt_of_get hE2)).trans hE2
  have hS3 := (hb3.block _ (lt_of_get hS2)).trans hS2
  clear hLo2 hB2 hE2 hS2 hM2 hb3
  have hbM : Below w3.heap.size w3 (w3.alloc (.cells #[.bool ra, .int .i64 rn, .int .i64 0] 40 (0, 0))) := (Below.refl _ _).alloc (Nat.le_refl _) _
  have hB4 := hB3.trans (hbM.mono hB3.size)
  have hLo4 := hLo3.below hbM
  have hE4 := (hbM.block _ (lt_of_get hE3)).trans hE3
  have hS4 := (hbM.block _ (lt_of_get hS3)).trans hS3
  have hV4 : (w3.alloc (.cells #[.bool ra, .int .i64 rn, .int .i64 0] 40 (0, 0))).heap[w3.heap.size]? = _ := heap_alloc_new w3 _
  have H4 : Hid _ := And.intro hLo4 (And.intro hB4 (And.intro hE4 (And.intro hS4 hV4)))
  have c0 := cell_of_row w3 w.heap.size 0 _ _ _ hE3
  have c1 := cell_of_row w3 w.heap.size 1 _ _ _ hE3
  have c2 := cell_of_row w3 w.heap.size 2 _ _ _ hE3
  have c3 := cell_of_row w3 w.heap.size 3 _ _ _ hE3
  have c4 := cell_of_row w3 w.heap.size 4 _ _ _ hE3
  have d0 := cell_of_row w3 (w.heap.size + 1) 0 _ _ _ hS3
  have d1 := cell_of_row w3 (w.heap.size + 1) 1 _ _ _ hS3
  have d2 := cell_of_row w3 (w.heap.size + 1) 2 _ _ _ hS3
  have d3 := cell_of_row w3 (w.heap.size + 1) 3 _ _ _ hS3
  simp only [List.getElem?_toArray, List.getElem?_cons_zero, List.getElem?_cons_succ] at c0 c1 c2 c3 c4 d0 d1 d2 d3
  have k1 : w.heap.size < w3.heap.size := lt_of_get hE3
  have k2 : w.heap.size ≠ w3.heap.size := by omega
  have k3 : w3.heap.size ≠ w.heap.size := by omega
  have j1 : w.heap.size + 1 < w3.heap.size := lt_of_get hS3
  have j2 : w.heap.size + 1 ≠ w3.heap.size := by omega
  have j3 : w3.heap.size ≠ w.heap.size + 1 := by omega
  clear hB3 hLo3 hE3 hS3 hbM hB4 hLo4 hE4 hS4 hV4
  go_wp2_with fail
  obtain ⟨hLo4, hB4, hE4, hS4, hV4⟩ := H4.out
  clear H4 c0 c1 c2 c3 c4 d0 d1 d2 d3 k1 k2 k3 j1 j2 j3
  generalize hbv : w3.heap.size = bv at *
  clear hbv
  generalize (w3.alloc (.cells #[.bool ra, .int .i64 rn, .int .i64 0] 40 (0, 0))) = w4 at *
  refine (W3 w4 hB4).mono ?_
  rintro en w5 ⟨rfl, hb5⟩
  clear W3
  have hB5 := hB4.trans (hb5.mono hB4.size)
  have hLo5 := hLo4.below hb5
  have hS5 := (hb5.block _ (lt_of_get hS4)).trans hS4
  have hV5 := (hb5.block _ (lt_of_get hV4)).trans hV4
  have hbM : Below w5.heap.size w5 (w5.alloc (.cells #[.bool ra, .int .i64 rn, .int .i64 0] 40 (0, 0))) := (Below.refl _ _).alloc (Nat.le_refl _) _
  have hB6 := hB5.trans (hbM.mono hB5.size)
  have hLo6 := hLo5.below hbM
  have hV6 := (hbM.block _ (lt_of_get hV5)).trans hV5
  have hU6 : (w5.alloc (.cells #[.bool ra, .int .i64 rn, .int .i64 0] 40 (0, 0))).heap[w5.heap.size]? = _ := heap_alloc_new w5 _
  have H6 : Hid _ := And.intro hLo6 (And.intro hB6 (And.intro hV6 hU6))
  have d0 := cell_of_row w5 (w.heap.size + 1) 0 _ _ _ hS5
  have d1 := cell_of_row w5 (w.heap.size + 1) 1 _ _ _ hS5
  have d2 := cell_of_row w5 (w.heap.size + 1) 2 _ _ _ hS5
  have d3 := cell_of_row w5 (w.heap.size + 1) 3 _ _ _ hS5
  simp only [List.getElem?_toArray, List.getElem?_cons_zero, List.getElem?_cons_succ] at d0 d1 d2 d3
  have j1 : w.heap.size + 1 < w5.heap.size := lt_of_get hS5
  have j2 : w.heap.size + 1 ≠ w5.heap.size := by omega
  have j3 : w5.heap.size ≠ w.heap.size + 1 := by omega
  clear hB5 hLo5 hS5 hV5 hbM hB6 hLo6 hV6 hU6 hLo4 hB4 hE4 hS4 hV4 hb5
  go_wp2_with fail
  obtain ⟨hLo6, hB6, hV6, hU6⟩ := H6.out
  clear H6 d0 d1 d2 d3 j1 j2 j3
  generalize hbu : w5.heap.size = bu at *
  clear hbu
  generalize (w5.alloc (.cells #[.bool ra, .int .i64 rn, .int .i64 0] 40 (0, 0))) = w6 at *
  have W7 := W4 wz w6 lb g1 g2 HB0.out hLo6
  refine W7.mono ?_
  rintro en w7 ⟨rfl, hb7, hk7⟩
  clear W4 W7
  have hB7 := HB0.out.trans (hb7.mono HB0.out.size)
  have nv1 : bv ≠ g1 := fun e => by
    obtain ⟨cs, hc, _⟩ := hLo6.row1.blk
    rw [← e, hV6] at hc; simp at hc
  have nv2 : bv ≠ g2 := fun e => by
    obtain ⟨cs, hc, _⟩ := hLo6.row2.blk
    rw [← e, hV6] at hc; simp at hc
  have nu1 : bu ≠ g1 := fun e => by
    obtain ⟨cs, hc, _⟩ := hLo6.row1.blk
    rw [← e, hU6] at hc; simp at hc
  have nu2 : bu ≠ g2 := fun e => by
    obtain ⟨cs, hc, _⟩ := hLo6.row2.blk
    rw [← e, hU6] at hc; simp at hc
  have hV7 := (hk7 bv (lt_of_get hV6) nv1 nv2).trans hV6
  have hU7 := (hk7 bu (lt_of_get hU6) nu1 nu2).trans hU6
  obtain ⟨⟨v0, v1, v2⟩, vf⟩ := ver_cells hV7
  obtain ⟨⟨u0, u1, u2⟩, uf⟩ := ver_cells hU7
  have HB7 : Hid _ := hB7
  have HK := HN w7
  clear hb7 hk7 hB7 hV7 hU7 hLo6 hB6 hV6 hU6 nv1 nv2 nu1 nu2 HB0
  go_wp2_with fail
  refine HK.mono ?_
  rintro en w8 ⟨rfl, rfl⟩
  clear HK HN
  go_wp2_with fail
  go_ret
  exact ⟨rfl, HB7.out⟩
end Go.Proofs.YtfkdailfcmnjlaaGreatDoor

namespace Go.Proofs.YtfkdailfcmnjlaaGreatDoor
open Go Go.ChangeShapes Go.WideShapes Go.ChangeAt Go.WideMaps Go.WideElems Go.RowKit Go.Deep
set_option maxRecDepth 100000

theorem in64_wf {n : Int} (h : (Lit.int .i64 n).wf = true) : In64 n := by
  have := h
  simp [Lit.wf, IntKind.min, IntKind.max, IntKind.signed, IntKind.bits] at this
  unfold In64
  exact this
variable {H : Type} {enc : TypeId × Value → H} {P : Program} {w : World} {base : Nat} {spare : Nat → Bool} {held : Bool}
theorem open_agg5 {r : Reach} {b0 : Nat} {t : TypeId} {f0 f1 f2 f3 f4 : Field} {v : Value} {d : DataW H} {p : List MemPlace} (hs : P.underlying t = some (.struct #[f0, f1, f2, f3, f4])) (hone : oneCellFields P #[f0, f1, f2, f3, f4] = true) (hC : P.cellsOf t = 5)
    (hv : Value.okWide P w r b0 t v) (h : DataW.Trod enc P w base spare held t v d p) :
    ∃ (v0 v1 v2 v3 v4 : Value) (y0 y1 y2 y3 y4 : DataW H × List MemPlace) (n : Nat), v = .agg #[v0, v1, v2, v3, v4] ∧ d = .agg [y0.1, y1.1, y2.1, y3.1, y4.1] ∧ p = y0.2 ++ (y1.2 ++ (y2.2 ++ (y3.2 ++ y4.2))) ∧
      DataW.trod enc P w base spare held n f0.type [v0] = some y0 ∧ DataW.trod enc P w base spare held n f1.type [v1] = some y1 ∧ DataW.trod enc P w base spare held n f2.type [v2] = some y2 ∧ DataW.trod enc P w base spare held n f3.type [v3] = some y3 ∧ DataW.trod enc P w base spare held n f4.type [v4] = some y4 := by
  obtain ⟨cs, rfl, hsz⟩ := okWide_struct hs hv
  obtain ⟨l⟩ := cs
  have hl : l.length = 5 := by simpa using hsz.trans hC
  obtain ⟨c0, c1, c2, c3, c4, rfl⟩ : ∃ c0 c1 c2 c3 c4, l = [c0, c1, c2, c3, c4] := by
    match l, hl with
    | [a, b, c, d, e], _ => exact ⟨a, b, c, d, e, rfl⟩
  obtain ⟨fuel, hf⟩ := h
  obtain ⟨xs, n, _, hx, _, hlen, hf⟩ := DataW.trod_struct hs hf
  obtain ⟨o0, k0⟩ := hone_of hone 0 f0 rfl
  obtain ⟨o1, k1⟩ := hone_of hone 1 f1 rfl
  obtain ⟨o2, k2⟩ := hone_of hone 2 f2 rfl
  obtain ⟨o3, k3⟩ := hone_of hone 3 f3 rfl
  obtain ⟨o4, k4⟩ := hone_of hone 4 f4 rfl
  match xs, hlen with
  | [y0, y1, y2, y3, y4], _ =>
    simp only [Prod.mk.injEq] at hx
    exact ⟨c0, c1, c2, c3, c4, y0, y1, y2, y3, y4, n, rfl, by simpa using hx.1, by simpa using hx.2, by simpa [Value.cells, o0, k0] using hf 0 f0 rfl, by simpa [Value.cells, o1, k1] using hf 1 f1 rfl, by simpa [Value.cells, o2, k2] using hf 2 f2 rfl, by simpa [Value.cells, o3, k3] using hf 3 f3 rfl, by simpa [Value.cells, o4, k4] using hf 4 f4 rfl⟩
theorem spot_none {a : Addr} {v : Value} (h : w.cell? a = some v) : ∃ b o, a = ⟨b, o, none⟩ := by
  obtain ⟨b, o, sp⟩ := a
  cases sp with
  | none => exact ⟨b, o, rfl⟩
  | some s =>
    exfalso
    simp only [World.cell?] at h
    split at h
    · simp at h
    · simp at h
/-- What a list of pairs is. -/
def strOf : Value → List UInt8
  | .string s => s.data.toList
  | _ => []
theorem open_pairs {t e : TypeId} {f0 f1 : Field} {fuel : Nat} {v : Value} {x : DataW H × List MemPlace} (ht : P.underlying t = some (.slice e)) (he : P.underlying e = some (.struct #[f0, f1]))
    (ce : P.cellsOf e = 2) (o0 : f0.offset = 0) (o1 : f1.offset = 1) (c0 : P.cellsOf f0.type = 1) (c1 : P.cellsOf f1.type = 1) (u0 : P.underlying f0.type = some .string) (u1 : P.underlying f1.type = some (.int .i64))
    (h : DataW.trod enc P w base (fun _ => true) held fuel t [v] = some x) : ∃ ls, PairsAt v ls w ∧ (∀ y ∈ ls, In64 y.2) ∧ ((x.1 = .nil ∧ ls = []) ∨ ∃ el sp, x.1 = .slice el sp ∧ el.length = ls.length) := by
  rcases Deep.open_slice_pairs ht he ce o0 o1 c0 c1 h with ⟨h0, rfl⟩ | ⟨a, len, cap, m, n, V0, V1, D0, D1, P0, P1, h0, _, hl, hm, hmm, rfl, hx⟩
  · simp at h0; subst h0
    exact ⟨[], ⟨by simp, none, 0, rfl, fun i hi => by simp at hi⟩, by simp, .inl ⟨rfl, rfl⟩⟩
  · simp at h0; subst h0
    simp at hmm
    subst hmm
    have hform : 0 < len → ∃ b o, a = ⟨b, o, none⟩ := fun h0 => by
      obtain ⟨g0, _⟩ := hx 0 (by omega)
      have e : a.add (0 * 2) = a := by simp [Addr.add]
      rw [e] at g0
      exact spot_none g0
    have hval : ∀ i, i < len → ∃ b o, a = ⟨b, o, none⟩ ∧ w.cell? ⟨b, o + i * 2, none⟩ = some (S (strOf (V0 i))) ∧ w.cell? ⟨b, o + i * 2 + 1, none⟩ = some (.int .i64 (intOf (V1 i))) ∧ In64 (intOf (V1 i)) := fun i hi => by
      obtain ⟨g0, g1, g2, g3⟩ := hx i (by omega)
      obtain ⟨s, e0, _, _⟩ := DataW.trod_string u0 g2
      obtain ⟨q, e1, _, hw⟩ := DataW.trod_int u1 g3
      simp at e0 e1
      obtain ⟨b, o, rfl⟩ := hform (by omega)
      rw [Addr.add_mid] at g0 g1
      rw [e0] at g0 ⊢
      rw [e1] at g1 ⊢
      exact ⟨b, o, rfl, g0, by rw [Nat.add_assoc]; exact g1, in64_wf hw⟩
    refine ⟨(List.range len).map fun i => (strOf (V0 i), intOf (V1 i)), ⟨by simp; omega, some a, _, by simp; rfl, fun i hi => ?_⟩, ?_, .inr ⟨_, _, rfl, by simp⟩⟩
    · simp at hi
      obtain ⟨b, o, rfl, q0, q1, q2⟩ := hval i hi
      have e : ((List.range len).map fun i => (strOf (V0 i), intOf (V1 i))).getD i ([], 0) = (strOf (V0 i), intOf (V1 i)) := by simp [List.getD_eq_getElem?_getD, hi]
      rw [e]
      exact ⟨b, o, rfl, q0, q1, q2⟩
    · intro y hy
      simp at hy
      obtain ⟨i, hi, rfl⟩ := hy
      obtain ⟨_, _, _, _, _, q⟩ := hval i hi
      exact q
end Go.Proofs.YtfkdailfcmnjlaaGreatDoor
