/-
  The program's Judge of what it loaded. The scene's event.
-/
import Derived.Test.YtfkdailfcmnjlaaDoorJA
import Derived.Test.YtfkdailfcmnjlaaDoorJB
import Derived.Test.YtfkdailfcmnjlaaDoorJC
import Derived.Test.YtfkdailfcmnjlaaDoorJD
import Derived.Test.YtfkdailfcmnjlaaDoorJE
import Derived.Test.YtfkdailfcmnjlaaDoorJF
import Derived.Test.YtfkdailfcmnjlaaDoorJG
import Derived.Test.YtfkdailfcmnjlaaDoorJH
import Derived.Test.YtfkdailfcmnjlaaDoorJI
import Derived.Test.YtfkdailfcmnjlaaDoorJJ
import Derived.Test.YtfkdailfcmnjlaaDoorJK
import Derived.Test.YtfkdailfcmnjlaaDoorJL
import Derived.Test.YtfkdailfcmnjlaaDoorJM
set_option linter.unusedVariables false
set_option linter.unusedSimpArgs false
namespace Go.Proofs.YtfkdailfcmnjlaaDoor
open Go Go.RowKit
set_option maxRecDepth 100000
attribute [local go_sem ↓] Go.wp_at_zero Go.wp_at_succ

theorem firstI_in {df : Int} {ls : List (List UInt8 × Int)} (u : List UInt8) (h : In64 df) (hl : ∀ x ∈ ls, In64 x.2) : In64 (firstI df ls u) := by
  induction ls with
  | nil => exact h
  | cons x r ih =>
    rw [firstI]
    split
    · exact hl x (by simp)
    · exact ih (fun y hy => hl y (by simp [hy]))
theorem known_in (n : Int) : In64 (knownI n) := by unfold knownI In64; split <;> omega
theorem firstK_in (ls : List (List UInt8 × Int)) (u : List UInt8) : In64 (firstK ls u) := by
  induction ls with
  | nil => show In64 0; unfold In64; omega
  | cons x r ih =>
    rw [firstK]
    split
    · exact known_in _
    · exact ih
theorem fields_T (e : Ev) (s : Stt) (h1 : In64 e.need) (h2 : In64 e.when_) (h3 : In64 s.dflt) (h4 : ∀ x ∈ s.levels, In64 x.2) : FieldsT (fieldsL e s) := by
  intro n hn
  have c : n = 0 ∨ n = 1 ∨ n = 2 ∨ n = 3 ∨ n = 4 ∨ n = 5 ∨ n = 6 ∨ n = 7 ∨ n = 8 := by omega
  rcases c with rfl | rfl | rfl | rfl | rfl | rfl | rfl | rfl | rfl
  · exact ⟨firstI_in _ h3 h4, fun e => by simp [fieldTy] at e⟩
  · exact ⟨firstI_in _ h3 h4, fun e => by simp [fieldTy] at e⟩
  · exact ⟨h1, fun e => by simp [fieldTy] at e⟩
  · exact ⟨h2, fun e => by simp [fieldTy] at e⟩
  · exact ⟨firstK_in _ _, fun e => by simp [fieldTy] at e⟩
  · exact ⟨firstK_in _ _, fun e => by simp [fieldTy] at e⟩
  · exact ⟨known_in _, fun e => by simp [fieldTy] at e⟩
  · exact hasT_truth _ _
  · exact hasT_truth _ _
set_option maxHeartbeats 4000000 in
theorem gjudge_any {b : List UInt8} {ins : List Ins} {lp cp gi cap : Nat} {w : World} {A : Bool} {Ru St : Nat} {lv mv : Value} (e : Ev) (s : Stt) (hld : loadOf b = some ins) (hlp : w.heap[lp]? = some (.cells #[.pointer (some ⟨cp, 0, none⟩)] 53 (0, 0))) (hm : CodeAt w cp gi cap (byteAt b 2) (byteAt b 1) ins) (h1 : PairsAt lv s.levels w) (h2 : PairsAt mv s.members w) (hF : FieldsT (fieldsL e s)) (hj : judgeOf b ins (fieldsL e s) = some (A, Ru, St)) :
    Calls Tryd.prog 9 #[.pointer (some ⟨lp, 0, none⟩), evV e, sttV lv mv s] w fun en w' => en = .returned (verdV A Ru St) ∧ Below w.heap.size w w' := by
  have c0 : w.cell? ⟨lp, 0, none⟩ = some (.pointer (some ⟨cp, 0, none⟩)) := by rw [cell_of_row w lp 0 _ _ _ hlp]; rfl
  have hlt := lt_of_get hlp
  have W1 : ∀ W, Below w.heap.size w W → Calls Tryd.prog 21 #[evV e, sttV lv mv s] W fun en w' => en = .returned (flV (fieldsL e s)) ∧ Below W.heap.size W w' := fun W hb => pfields_any e s W (h1.below hb) (h2.below hb)
  have W2 : ∀ W, Below w.heap.size w W → Calls Tryd.prog 20 #[.pointer (some ⟨cp, 0, none⟩), flV (fieldsL e s)] W fun e w' => e = .returned (verdV A Ru St) ∧ Below W.heap.size W w' := fun W hb => mjudge_any hld (hm.below hb) hF hj
  obtain ⟨sn, tg, wa, nd, wh⟩ := e
  obtain ⟨ls, df, ms, op⟩ := s
  obtain ⟨_, la, lc, rfl, _⟩ := h1
  obtain ⟨_, ma, mc, rfl, _⟩ := h2
  unfold evV sttV flV at *
  simp only [] at *
  generalize (fieldsL ⟨sn, tg, wa, nd, wh⟩ ⟨ls, df, ms, op⟩).getD 0 0 = f0 at *
  generalize (fieldsL ⟨sn, tg, wa, nd, wh⟩ ⟨ls, df, ms, op⟩).getD 1 0 = f1 at *
  generalize (fieldsL ⟨sn, tg, wa, nd, wh⟩ ⟨ls, df, ms, op⟩).getD 2 0 = f2 at *
  generalize (fieldsL ⟨sn, tg, wa, nd, wh⟩ ⟨ls, df, ms, op⟩).getD 3 0 = f3 at *
  generalize (fieldsL ⟨sn, tg, wa, nd, wh⟩ ⟨ls, df, ms, op⟩).getD 4 0 = f4 at *
  generalize (fieldsL ⟨sn, tg, wa, nd, wh⟩ ⟨ls, df, ms, op⟩).getD 5 0 = f5 at *
  generalize (fieldsL ⟨sn, tg, wa, nd, wh⟩ ⟨ls, df, ms, op⟩).getD 6 0 = f6 at *
  generalize (fieldsL ⟨sn, tg, wa, nd, wh⟩ ⟨ls, df, ms, op⟩).getD 7 0 = f7 at *
  generalize (fieldsL ⟨sn, tg, wa, nd, wh⟩ ⟨ls, df, ms, op⟩).getD 8 0 = f8 at *
  obtain ⟨w3, hw3⟩ : ∃ w3, ((w.alloc (.cells #[S sn, S tg, .int .i64 wa, .int .i64 nd, .int .i64 wh] 23)).alloc (.cells #[.slice la ls.length lc, .int .i64 df, .slice ma ms.length mc, .bool op] 27)).alloc (.cells #[.bool false, .int .i64 0, .int .i64 0] 44) = w3 := ⟨_, rfl⟩
  have hb3 : Below w.heap.size w w3 := by rw [← hw3]; exact (((Below.refl _ w).alloc (Nat.le_refl _) _).alloc (by simp) _).alloc (by simp; omega) _
  have hk1 : w3.heap[w.heap.size]? = some (.cells #[S sn, S tg, .int .i64 wa, .int .i64 nd, .int .i64 wh] 23 (0, 0)) := by rw [← hw3]; exact (Below.heap_alloc _ _ _ (by simp; omega)).trans ((Below.heap_alloc _ _ _ (by simp)).trans (heap_alloc_new w _))
  have hk2 : w3.heap[w.heap.size + 1]? = some (.cells #[.slice la ls.length lc, .int .i64 df, .slice ma ms.length mc, .bool op] 27 (0, 0)) := by
    rw [← hw3]
    refine (Below.heap_alloc _ _ _ (by simp)).trans ?_
    have := heap_alloc_new (w.alloc (.cells #[S sn, S tg, .int .i64 wa, .int .i64 nd, .int .i64 wh] 23)) (.cells #[.slice la ls.length lc, .int .i64 df, .slice ma ms.length mc, .bool op] 27)
    rw [World.size_alloc] at this; exact this
  have hk3 : w3.heap[w.heap.size + 1 + 1]? = some (.cells #[.bool false, .int .i64 0, .int .i64 0] 44 (0, 0)) := by
    rw [← hw3]
    have := heap_alloc_new ((w.alloc (.cells #[S sn, S tg, .int .i64 wa, .int .i64 nd, .int .i64 wh] 23)).alloc (.cells #[.slice la ls.length lc, .int .i64 df, .slice ma ms.length mc, .bool op] 27)) (.cells #[.bool false, .int .i64 0, .int .i64 0] 44)
    rw [World.size_alloc, World.size_alloc] at this; exact this
  have HSZ : Hid (w3.heap.size = w.heap.size + 1 + 1 + 1) := by show w3.heap.size = _; rw [← hw3, World.size_alloc, World.size_alloc, World.size_alloc]
  have q1 := fun j => cell_of_row w3 _ j _ _ _ hk1
  have q2 := fun j => cell_of_row w3 _ j _ _ _ hk2
  have c3 : w3.cell? ⟨lp, 0, none⟩ = some (.pointer (some ⟨cp, 0, none⟩)) := by rw [hb3.cell (p := ⟨lp, 0, none⟩) hlt]; exact c0
  have hS0 : Below (w.heap.size + 1 + 1) w3 w3 ∧ w3.cell? ⟨lp, 0, none⟩ = some (.pointer (some ⟨cp, 0, none⟩)) ∧ w3.cell? ⟨w.heap.size, 0, none⟩ = some (S sn) ∧ w3.cell? ⟨w.heap.size, 1, none⟩ = some (S tg) ∧ w3.cell? ⟨w.heap.size, 2, none⟩ = some (.int .i64 wa) ∧ w3.cell? ⟨w.heap.size, 3, none⟩ = some (.int .i64 nd) ∧ w3.cell? ⟨w.heap.size, 4, none⟩ = some (.int .i64 wh) ∧ w3.cell? ⟨w.heap.size + 1, 0, none⟩ = some (.slice la ls.length lc) ∧ w3.cell? ⟨w.heap.size + 1, 1, none⟩ = some (.int .i64 df) ∧ w3.cell? ⟨w.heap.size + 1, 2, none⟩ = some (.slice ma ms.length mc) ∧ w3.cell? ⟨w.heap.size + 1, 3, none⟩ = some (.bool op) := ⟨Below.refl _ _, c3, q1 0, q1 1, q1 2, q1 3, q1 4, q2 0, q2 1, q2 2, q2 3⟩
  have KB : Hid (∀ W W', (Below (w.heap.size + 1 + 1) w3 W ∧ W.cell? ⟨lp, 0, none⟩ = some (.pointer (some ⟨cp, 0, none⟩)) ∧ W.cell? ⟨w.heap.size, 0, none⟩ = some (S sn) ∧ W.cell? ⟨w.heap.size, 1, none⟩ = some (S tg) ∧ W.cell? ⟨w.heap.size, 2, none⟩ = some (.int .i64 wa) ∧ W.cell? ⟨w.heap.size, 3, none⟩ = some (.int .i64 nd) ∧ W.cell? ⟨w.heap.size, 4, none⟩ = some (.int .i64 wh) ∧ W.cell? ⟨w.heap.size + 1, 0, none⟩ = some (.slice la ls.length lc) ∧ W.cell? ⟨w.heap.size + 1, 1, none⟩ = some (.int .i64 df) ∧ W.cell? ⟨w.heap.size + 1, 2, none⟩ = some (.slice ma ms.length mc) ∧ W.cell? ⟨w.heap.size + 1, 3, none⟩ = some (.bool op)) → Below W.heap.size W W' → (Below (w.heap.size + 1 + 1) w3 W' ∧ W'.cell? ⟨lp, 0, none⟩ = some (.pointer (some ⟨cp, 0, none⟩)) ∧ W'.cell? ⟨w.heap.size, 0, none⟩ = some (S sn) ∧ W'.cell? ⟨w.heap.size, 1, none⟩ = some (S tg) ∧ W'.cell? ⟨w.heap.size, 2, none⟩ = some (.int .i64 wa) ∧ W'.cell? ⟨w.heap.size, 3, none⟩ = some (.int .i64 nd) ∧ W'.cell? ⟨w.heap.size, 4, none⟩ = some (.int .i64 wh) ∧ W'.cell? ⟨w.heap.size + 1, 0, none⟩ = some (.slice la ls.length lc) ∧ W'.cell? ⟨w.heap.size + 1, 1, none⟩ = some (.int .i64 df) ∧ W'.cell? ⟨w.heap.size + 1, 2, none⟩ = some (.slice ma ms.length mc) ∧ W'.cell? ⟨w.heap.size + 1, 3, none⟩ = some (.bool op))) := fun W W' hS hb => by
    obtain ⟨s0, s1, s2, s3, s4, s5, s6, s7, s8, s9, s10⟩ := hS
    refine ⟨s0.trans (hb.mono (by have := s0.size; have := HSZ.out; omega)), ?_, ?_, ?_, ?_, ?_, ?_, ?_, ?_, ?_, ?_⟩ <;> (rw [hb.cell (World.block_lt_of_cell? W _ (by assumption))]; assumption)
  have HK3 : Hid _ := hk3
  have HB3 : Hid _ := hb3
  have HG : Hid (∀ W, Below (w.heap.size + 1 + 1) w3 W → Below w.heap.size w W) := fun W h => hb3.trans (h.mono (by omega))
  have V1 : ∀ W, Below (w.heap.size + 1 + 1) w3 W → _ := fun W h => W1 W (HG.out W h)
  have V2 : ∀ W, Below (w.heap.size + 1 + 1) w3 W → _ := fun W h => W2 W (HG.out W h)
  have HR : Hid (∀ W, Below w3.heap.size w3 W → W.cell? ⟨w.heap.size + 1 + 1, 0, none⟩ = some (.bool false) ∧ W.cell? ⟨w.heap.size + 1 + 1, 1, none⟩ = some (.int .i64 0) ∧ W.cell? ⟨w.heap.size + 1 + 1, 2, none⟩ = some (.int .i64 0) ∧ W.frozen? ⟨w.heap.size + 1 + 1, 0, none⟩ = false ∧ W.frozen? ⟨w.heap.size + 1 + 1, 1, none⟩ = false ∧ W.frozen? ⟨w.heap.size + 1 + 1, 2, none⟩ = false) := fun W h => by
    have hk : W.heap[w.heap.size + 1 + 1]? = _ := (h.block _ (lt_of_get hk3)).trans hk3
    have hcc := fun j => cell_of_row W _ j _ _ _ hk
    exact ⟨hcc 0, hcc 1, hcc 2, by simp [World.frozen?, hk], by simp [World.frozen?, hk], by simp [World.frozen?, hk]⟩
  have KD : Hid (∀ W : World, (Below (w.heap.size + 1 + 1) w3 W ∧ W.cell? ⟨lp, 0, none⟩ = some (.pointer (some ⟨cp, 0, none⟩)) ∧ W.cell? ⟨w.heap.size, 0, none⟩ = some (S sn) ∧ W.cell? ⟨w.heap.size, 1, none⟩ = some (S tg) ∧ W.cell? ⟨w.heap.size, 2, none⟩ = some (.int .i64 wa) ∧ W.cell? ⟨w.heap.size, 3, none⟩ = some (.int .i64 nd) ∧ W.cell? ⟨w.heap.size, 4, none⟩ = some (.int .i64 wh) ∧ W.cell? ⟨w.heap.size + 1, 0, none⟩ = some (.slice la ls.length lc) ∧ W.cell? ⟨w.heap.size + 1, 1, none⟩ = some (.int .i64 df) ∧ W.cell? ⟨w.heap.size + 1, 2, none⟩ = some (.slice ma ms.length mc) ∧ W.cell? ⟨w.heap.size + 1, 3, none⟩ = some (.bool op)) → (Below (w.heap.size + 1 + 1) w3 W.drew ∧ W.drew.cell? ⟨lp, 0, none⟩ = some (.pointer (some ⟨cp, 0, none⟩)) ∧ W.drew.cell? ⟨w.heap.size, 0, none⟩ = some (S sn) ∧ W.drew.cell? ⟨w.heap.size, 1, none⟩ = some (S tg) ∧ W.drew.cell? ⟨w.heap.size, 2, none⟩ = some (.int .i64 wa) ∧ W.drew.cell? ⟨w.heap.size, 3, none⟩ = some (.int .i64 nd) ∧ W.drew.cell? ⟨w.heap.size, 4, none⟩ = some (.int .i64 wh) ∧ W.drew.cell? ⟨w.heap.size + 1, 0, none⟩ = some (.slice la ls.length lc) ∧ W.drew.cell? ⟨w.heap.size + 1, 1, none⟩ = some (.int .i64 df) ∧ W.drew.cell? ⟨w.heap.size + 1, 2, none⟩ = some (.slice ma ms.length mc) ∧ W.drew.cell? ⟨w.heap.size + 1, 3, none⟩ = some (.bool op))) := fun W hS => ⟨hS.1.drew, hS.2⟩
  have KS : Hid (∀ (W : World) (v0 v1 v2 : Value), (Below (w.heap.size + 1 + 1) w3 W ∧ W.cell? ⟨lp, 0, none⟩ = some (.pointer (some ⟨cp, 0, none⟩)) ∧ W.cell? ⟨w.heap.size, 0, none⟩ = some (S sn) ∧ W.cell? ⟨w.heap.size, 1, none⟩ = some (S tg) ∧ W.cell? ⟨w.heap.size, 2, none⟩ = some (.int .i64 wa) ∧ W.cell? ⟨w.heap.size, 3, none⟩ = some (.int .i64 nd) ∧ W.cell? ⟨w.heap.size, 4, none⟩ = some (.int .i64 wh) ∧ W.cell? ⟨w.heap.size + 1, 0, none⟩ = some (.slice la ls.length lc) ∧ W.cell? ⟨w.heap.size + 1, 1, none⟩ = some (.int .i64 df) ∧ W.cell? ⟨w.heap.size + 1, 2, none⟩ = some (.slice ma ms.length mc) ∧ W.cell? ⟨w.heap.size + 1, 3, none⟩ = some (.bool op)) → (Below (w.heap.size + 1 + 1) w3 (((W.setCell ⟨w.heap.size + 1 + 1, 0, none⟩ v0).setCell ⟨w.heap.size + 1 + 1, 1, none⟩ v1).setCell ⟨w.heap.size + 1 + 1, 2, none⟩ v2) ∧ (((W.setCell ⟨w.heap.size + 1 + 1, 0, none⟩ v0).setCell ⟨w.heap.size + 1 + 1, 1, none⟩ v1).setCell ⟨w.heap.size + 1 + 1, 2, none⟩ v2).cell? ⟨lp, 0, none⟩ = some (.pointer (some ⟨cp, 0, none⟩)) ∧ (((W.setCell ⟨w.heap.size + 1 + 1, 0, none⟩ v0).setCell ⟨w.heap.size + 1 + 1, 1, none⟩ v1).setCell ⟨w.heap.size + 1 + 1, 2, none⟩ v2).cell? ⟨w.heap.size, 0, none⟩ = some (S sn) ∧ (((W.setCell ⟨w.heap.size + 1 + 1, 0, none⟩ v0).setCell ⟨w.heap.size + 1 + 1, 1, none⟩ v1).setCell ⟨w.heap.size + 1 + 1, 2, none⟩ v2).cell? ⟨w.heap.size, 1, none⟩ = some (S tg) ∧ (((W.setCell ⟨w.heap.size + 1 + 1, 0, none⟩ v0).setCell ⟨w.heap.size + 1 + 1, 1, none⟩ v1).setCell ⟨w.heap.size + 1 + 1, 2, none⟩ v2).cell? ⟨w.heap.size, 2, none⟩ = some (.int .i64 wa) ∧ (((W.setCell ⟨w.heap.size + 1 + 1, 0, none⟩ v0).setCell ⟨w.heap.size + 1 + 1, 1, none⟩ v1).setCell ⟨w.heap.size + 1 + 1, 2, none⟩ v2).cell? ⟨w.heap.size, 3, none⟩ = some (.int .i64 nd) ∧ (((W.setCell ⟨w.heap.size + 1 + 1, 0, none⟩ v0).setCell ⟨w.heap.size + 1 + 1, 1, none⟩ v1).setCell ⟨w.heap.size + 1 + 1, 2, none⟩ v2).cell? ⟨w.heap.size, 4, none⟩ = some (.int .i64 wh) ∧ (((W.setCell ⟨w.heap.size + 1 + 1, 0, none⟩ v0).setCell ⟨w.heap.size + 1 + 1, 1, none⟩ v1).setCell ⟨w.heap.size + 1 + 1, 2, none⟩ v2).cell? ⟨w.heap.size + 1, 0, none⟩ = some (.slice la ls.length lc) ∧ (((W.setCell ⟨w.heap.size + 1 + 1, 0, none⟩ v0).setCell ⟨w.heap.size + 1 + 1, 1, none⟩ v1).setCell ⟨w.heap.size + 1 + 1, 2, none⟩ v2).cell? ⟨w.heap.size + 1, 1, none⟩ = some (.int .i64 df) ∧ (((W.setCell ⟨w.heap.size + 1 + 1, 0, none⟩ v0).setCell ⟨w.heap.size + 1 + 1, 1, none⟩ v1).setCell ⟨w.heap.size + 1 + 1, 2, none⟩ v2).cell? ⟨w.heap.size + 1, 2, none⟩ = some (.slice ma ms.length mc) ∧ (((W.setCell ⟨w.heap.size + 1 + 1, 0, none⟩ v0).setCell ⟨w.heap.size + 1 + 1, 1, none⟩ v1).setCell ⟨w.heap.size + 1 + 1, 2, none⟩ v2).cell? ⟨w.heap.size + 1, 3, none⟩ = some (.bool op))) := fun W v0 v1 v2 hS => by
    obtain ⟨s0, s1, s2, s3, s4, s5, s6, s7, s8, s9, s10⟩ := hS
    refine ⟨((s0.setCell (by simp) _).setCell (by simp) _).setCell (by simp) _, ?_, ?_, ?_, ?_, ?_, ?_, ?_, ?_, ?_, ?_⟩ <;>
      (rw [World.cell?_setCell_far _ _ _ _ (by simp only []; omega), World.cell?_setCell_far _ _ _ _ (by simp only []; omega), World.cell?_setCell_far _ _ _ _ (by simp only []; omega)]; assumption)
  clear W1 W2
  have HW : Hid _ := hw3
  have c3' := c3
  rw [← hw3] at c3'
  clear hlp hm hF hj hld hk1 hk2 hk3 q1 q2 hb3 hw3 c3
  go_enter Tryd.func9, Tryd.ntmps9
  go_wp2_with fail
  rw [HW.out]
  unfold verdV at V2
  go_region_held3 (fun W => Below (w.heap.size + 1 + 1) w3 W ∧ W.cell? ⟨lp, 0, none⟩ = some (.pointer (some ⟨cp, 0, none⟩)) ∧ W.cell? ⟨w.heap.size, 0, none⟩ = some (S sn) ∧ W.cell? ⟨w.heap.size, 1, none⟩ = some (S tg) ∧ W.cell? ⟨w.heap.size, 2, none⟩ = some (.int .i64 wa) ∧ W.cell? ⟨w.heap.size, 3, none⟩ = some (.int .i64 nd) ∧ W.cell? ⟨w.heap.size, 4, none⟩ = some (.int .i64 wh) ∧ W.cell? ⟨w.heap.size + 1, 0, none⟩ = some (.slice la ls.length lc) ∧ W.cell? ⟨w.heap.size + 1, 1, none⟩ = some (.int .i64 df) ∧ W.cell? ⟨w.heap.size + 1, 2, none⟩ = some (.slice ma ms.length mc) ∧ W.cell? ⟨w.heap.size + 1, 3, none⟩ = some (.bool op)) (first | with_reducible assumption | with_reducible exact KD.out _ (by assumption) | with_reducible exact KB.out _ _ (by assumption) (by assumption) | with_reducible exact KS.out _ _ _ _ (by assumption) | go_keep)
    (first
      | (go_at_call 21; refine (V1 _ (by exact And.left (by assumption))).mono ?_; rintro e w4 ⟨rfl, hb4⟩)
      | (go_at_call 20; refine (V2 _ (by exact And.left (by assumption))).mono ?_; rintro e w5 ⟨rfl, hb5⟩; obtain ⟨r0, r1, r2, g0, g1, g2⟩ := HR.out _ (Below.trans ⟨hb4.os, hb4.tape, hb4.output, hb4.size, hb4.block⟩ (hb5.mono hb4.size))))
  rename_i hHeld
  have HBl : Hid _ := HG.out _ hHeld.1
  clear hHeld KB KD KS V1 V2 HR HG hS0 hb4 hb5
  go_wp2
  refine bodyPost_ret (v := verdV A Ru St) (by simp [results, Tryd.results9, go_sem, verdV, cell_set_same, cell_set_off, some_set, r0, r1, r2]) rfl ?_
  exact ⟨rfl, HBl.out⟩
end Go.Proofs.YtfkdailfcmnjlaaDoor

namespace Go.Proofs.YtfkdailfcmnjlaaDoor
open Go Go.RowKit
set_option maxRecDepth 100000
attribute [local go_sem ↓] Go.wp_at_zero Go.wp_at_succ

/-- Which of three a raw number speaks of. -/
def pick3 (c : Int) : Nat := ((if c < 0 then -(c + 1) else c) % 3).toNat
theorem pick3_lt (c : Int) : pick3 c < 3 := by unfold pick3; omega
set_option maxHeartbeats 2000000 in
theorem pick_any {c : Int} (hc : In64 c) (w : World) : Calls Tryd.prog 36 #[.int .i64 c, .int .i64 3] w fun e w' => e = .returned (.int .i64 (pick3 c : Nat)) ∧ w' = w := by
  have HR : Hid (((pick3 c : Nat) : Int) = (if c < 0 then -(c + 1) else c) % 3) := by show _ = _; unfold pick3; omega
  generalize pick3 c = R at *
  unfold In64 at hc
  obtain ⟨h1, h2⟩ := hc
  by_cases h0 : c < 0
  · have HR2 : Hid ((R : Int) = (-(c + 1)) % 3) := by have := HR.out; rw [if_pos h0] at this; exact this
    have hz : (0 : Int) ≤ -(c + 1) := by omega
    have hw1 : IntKind.i64.wrap (c + 1) = c + 1 := by rw [IntKind.wrap_i64]; omega
    have hw2 : IntKind.i64.wrap (-(c + 1)) = -(c + 1) := by rw [IntKind.wrap_i64]; omega
    have ht : (-(c + 1)).tmod 3 = (-(c + 1)) % 3 := Int.tmod_eq_emod_of_nonneg hz
    clear HR
    go_enter Tryd.func36, Tryd.ntmps36
    go_wp2
    go_ret
    refine ⟨ret_int ?_, rfl⟩
    first | exact HR2.out.symm | (simp [ht, HR2.out]; done) | (have := HR2.out; omega)
  · have HR2 : Hid ((R : Int) = c % 3) := by have := HR.out; rw [if_neg h0] at this; exact this
    have hz : (0 : Int) ≤ c := by omega
    have ht : c.tmod 3 = c % 3 := Int.tmod_eq_emod_of_nonneg hz
    clear HR
    go_enter Tryd.func36, Tryd.ntmps36
    go_wp2
    go_ret
    refine ⟨ret_int ?_, rfl⟩
    first | exact HR2.out.symm | (simp [ht, HR2.out]; done) | (have := HR2.out; omega)
def userL (c : Int) : List UInt8 := [[97], [98], []].getD (pick3 c) []
set_option maxHeartbeats 2000000 in
theorem user_any {c : Int} (hc : In64 c) (w : World) : Calls Tryd.prog 22 #[.int .i64 c] w fun e w' => e = .returned (S (userL c)) ∧ Below w.heap.size w w' := by
  have W1 := fun w => pick_any hc w
  have hlt := pick3_lt c
  unfold userL
  generalize pick3 c = R at *
  clear hc
  have HB : Hid (∀ o, Below w.heap.size w (w.alloc o)) := fun o => (Below.refl _ _).alloc (Nat.le_refl _) _
  have hR : R = 0 ∨ R = 1 ∨ R = 2 := by omega
  rcases hR with rfl | rfl | rfl
  all_goals
    go_enter Tryd.func22, Tryd.ntmps22
    go_wp2_with (
      go_at_call 36
      refine (W1 _).mono ?_
      rintro e w' ⟨rfl, rfl⟩)
  all_goals
    go_ret
    exact ⟨rfl, HB.out _⟩
/-- A scene. -/
structure Scn where
  sn : Int
  tg : Int
  wa : Int
  nd : Int
  wh : Int
  l0 : Int
  l1 : Int
  l2 : Int
  i0 : Int
  i1 : Int
  i2 : Int
  a0 : Bool
  a1 : Bool
  a2 : Bool
  df : Int
  op : Bool
def scC (c : Scn) : Array Value := #[.int .i64 c.sn, .int .i64 c.tg, .int .i64 c.wa, .int .i64 c.nd, .int .i64 c.wh, .int .i64 c.l0, .int .i64 c.l1, .int .i64 c.l2, .int .i64 c.i0, .int .i64 c.i1, .int .i64 c.i2, .bool c.a0, .bool c.a1, .bool c.a2, .int .i64 c.df, .bool c.op]
structure ScnIn (c : Scn) : Prop where
  sn : In64 c.sn
  tg : In64 c.tg
  nd : In64 c.nd
  wh : In64 c.wh
  l0 : In64 c.l0
  l1 : In64 c.l1
  l2 : In64 c.l2
  i0 : In64 c.i0
  i1 : In64 c.i1
  i2 : In64 c.i2
  df : In64 c.df
def scEv (c : Scn) : Ev := ⟨userL c.sn, userL c.tg, c.wa, c.nd, c.wh⟩
set_option maxHeartbeats 4000000 in
theorem event_any {c : Scn} (hc : ScnIn c) (w : World) : Calls Tryd.prog 10 #[.agg (scC c)] w fun e w' => e = .returned (evV (scEv c)) ∧ Below w.heap.size w w' := by
  have W1 := fun w => user_any hc.sn w
  have W2 := fun w => user_any hc.tg w
  unfold evV scEv scC
  simp only []
  generalize userL c.sn = us at *
  generalize userL c.tg = ut at *
  obtain ⟨sn, tg, wa, nd, wh, l0, l1, l2, i0, i1, i2, a0, a1, a2, df, op⟩ := c
  simp only [] at *
  clear hc
  obtain ⟨w2, hw2⟩ : ∃ w2, (w.alloc (.cells #[.int .i64 sn, .int .i64 tg, .int .i64 wa, .int .i64 nd, .int .i64 wh, .int .i64 l0, .int .i64 l1, .int .i64 l2, .int .i64 i0, .int .i64 i1, .int .i64 i2, .bool a0, .bool a1, .bool a2, .int .i64 df, .bool op] 42)).alloc (.cells #[.string ⟨#[]⟩, .string ⟨#[]⟩, .int .i64 0, .int .i64 0, .int .i64 0] 23) = w2 := ⟨_, rfl⟩
  have hb2 : Below w.heap.size w w2 := by rw [← hw2]; exact ((Below.refl _ w).alloc (Nat.le_refl _) _).alloc (by simp) _
  have hk1 : w2.heap[w.heap.size]? = some (.cells #[.int .i64 sn, .int .i64 tg, .int .i64 wa, .int .i64 nd, .int .i64 wh, .int .i64 l0, .int .i64 l1, .int .i64 l2, .int .i64 i0, .int .i64 i1, .int .i64 i2, .bool a0, .bool a1, .bool a2, .int .i64 df, .bool op] 42 (0, 0)) := by rw [← hw2]; exact (Below.heap_alloc _ _ _ (by simp)).trans (heap_alloc_new w _)
  have hk2 : w2.heap[w.heap.size + 1]? = some (.cells #[.string ⟨#[]⟩, .string ⟨#[]⟩, .int .i64 0, .int .i64 0, .int .i64 0] 23 (0, 0)) := by
    rw [← hw2]
    have := heap_alloc_new (w.alloc (.cells #[.int .i64 sn, .int .i64 tg, .int .i64 wa, .int .i64 nd, .int .i64 wh, .int .i64 l0, .int .i64 l1, .int .i64 l2, .int .i64 i0, .int .i64 i1, .int .i64 i2, .bool a0, .bool a1, .bool a2, .int .i64 df, .bool op] 42)) (.cells #[.string ⟨#[]⟩, .string ⟨#[]⟩, .int .i64 0, .int .i64 0, .int .i64 0] 23)
    rw [World.size_alloc] at this; exact this
  have hsz : w2.heap.size = w.heap.size + 1 + 1 := by rw [← hw2, World.size_alloc, World.size_alloc]
  have q1 := fun j => cell_of_row w2 _ j _ _ _ hk1
  have hS0 : Below (w.heap.size + 1) w2 w2 ∧ w2.cell? ⟨w.heap.size, 0, none⟩ = some (.int .i64 sn) ∧ w2.cell? ⟨w.heap.size, 1, none⟩ = some (.int .i64 tg) ∧ w2.cell? ⟨w.heap.size, 2, none⟩ = some (.int .i64 wa) ∧ w2.cell? ⟨w.heap.size, 3, none⟩ = some (.int .i64 nd) ∧ w2.cell? ⟨w.heap.size, 4, none⟩ = some (.int .i64 wh) := ⟨Below.refl _ _, q1 0, q1 1, q1 2, q1 3, q1 4⟩
  have KB : Hid (∀ W W', (Below (w.heap.size + 1) w2 W ∧ W.cell? ⟨w.heap.size, 0, none⟩ = some (.int .i64 sn) ∧ W.cell? ⟨w.heap.size, 1, none⟩ = some (.int .i64 tg) ∧ W.cell? ⟨w.heap.size, 2, none⟩ = some (.int .i64 wa) ∧ W.cell? ⟨w.heap.size, 3, none⟩ = some (.int .i64 nd) ∧ W.cell? ⟨w.heap.size, 4, none⟩ = some (.int .i64 wh)) → Below W.heap.size W W' → (Below (w.heap.size + 1) w2 W' ∧ W'.cell? ⟨w.heap.size, 0, none⟩ = some (.int .i64 sn) ∧ W'.cell? ⟨w.heap.size, 1, none⟩ = some (.int .i64 tg) ∧ W'.cell? ⟨w.heap.size, 2, none⟩ = some (.int .i64 wa) ∧ W'.cell? ⟨w.heap.size, 3, none⟩ = some (.int .i64 nd) ∧ W'.cell? ⟨w.heap.size, 4, none⟩ = some (.int .i64 wh))) := fun W W' hS hb => by
    obtain ⟨s0, s1, s2, s3, s4, s5⟩ := hS
    refine ⟨s0.trans (hb.mono (by have := s0.size; omega)), ?_, ?_, ?_, ?_, ?_⟩ <;> (rw [hb.cell (World.block_lt_of_cell? W _ (by assumption))]; assumption)
  have KD : Hid (∀ W : World, (Below (w.heap.size + 1) w2 W ∧ W.cell? ⟨w.heap.size, 0, none⟩ = some (.int .i64 sn) ∧ W.cell? ⟨w.heap.size, 1, none⟩ = some (.int .i64 tg) ∧ W.cell? ⟨w.heap.size, 2, none⟩ = some (.int .i64 wa) ∧ W.cell? ⟨w.heap.size, 3, none⟩ = some (.int .i64 nd) ∧ W.cell? ⟨w.heap.size, 4, none⟩ = some (.int .i64 wh)) → (Below (w.heap.size + 1) w2 W.drew ∧ W.drew.cell? ⟨w.heap.size, 0, none⟩ = some (.int .i64 sn) ∧ W.drew.cell? ⟨w.heap.size, 1, none⟩ = some (.int .i64 tg) ∧ W.drew.cell? ⟨w.heap.size, 2, none⟩ = some (.int .i64 wa) ∧ W.drew.cell? ⟨w.heap.size, 3, none⟩ = some (.int .i64 nd) ∧ W.drew.cell? ⟨w.heap.size, 4, none⟩ = some (.int .i64 wh))) := fun W hS => ⟨hS.1.drew, hS.2⟩
  have KS : Hid (∀ (W : World) (v0 v1 v2 v3 v4 : Value), (Below (w.heap.size + 1) w2 W ∧ W.cell? ⟨w.heap.size, 0, none⟩ = some (.int .i64 sn) ∧ W.cell? ⟨w.heap.size, 1, none⟩ = some (.int .i64 tg) ∧ W.cell? ⟨w.heap.size, 2, none⟩ = some (.int .i64 wa) ∧ W.cell? ⟨w.heap.size, 3, none⟩ = some (.int .i64 nd) ∧ W.cell? ⟨w.heap.size, 4, none⟩ = some (.int .i64 wh)) → (Below (w.heap.size + 1) w2 (((((W.setCell ⟨w.heap.size + 1, 0, none⟩ v0).setCell ⟨w.heap.size + 1, 1, none⟩ v1).setCell ⟨w.heap.size + 1, 2, none⟩ v2).setCell ⟨w.heap.size + 1, 3, none⟩ v3).setCell ⟨w.heap.size + 1, 4, none⟩ v4) ∧ (((((W.setCell ⟨w.heap.size + 1, 0, none⟩ v0).setCell ⟨w.heap.size + 1, 1, none⟩ v1).setCell ⟨w.heap.size + 1, 2, none⟩ v2).setCell ⟨w.heap.size + 1, 3, none⟩ v3).setCell ⟨w.heap.size + 1, 4, none⟩ v4).cell? ⟨w.heap.size, 0, none⟩ = some (.int .i64 sn) ∧ (((((W.setCell ⟨w.heap.size + 1, 0, none⟩ v0).setCell ⟨w.heap.size + 1, 1, none⟩ v1).setCell ⟨w.heap.size + 1, 2, none⟩ v2).setCell ⟨w.heap.size + 1, 3, none⟩ v3).setCell ⟨w.heap.size + 1, 4, none⟩ v4).cell? ⟨w.heap.size, 1, none⟩ = some (.int .i64 tg) ∧ (((((W.setCell ⟨w.heap.size + 1, 0, none⟩ v0).setCell ⟨w.heap.size + 1, 1, none⟩ v1).setCell ⟨w.heap.size + 1, 2, none⟩ v2).setCell ⟨w.heap.size + 1, 3, none⟩ v3).setCell ⟨w.heap.size + 1, 4, none⟩ v4).cell? ⟨w.heap.size, 2, none⟩ = some (.int .i64 wa) ∧ (((((W.setCell ⟨w.heap.size + 1, 0, none⟩ v0).setCell ⟨w.heap.size + 1, 1, none⟩ v1).setCell ⟨w.heap.size + 1, 2, none⟩ v2).setCell ⟨w.heap.size + 1, 3, none⟩ v3).setCell ⟨w.heap.size + 1, 4, none⟩ v4).cell? ⟨w.heap.size, 3, none⟩ = some (.int .i64 nd) ∧ (((((W.setCell ⟨w.heap.size + 1, 0, none⟩ v0).setCell ⟨w.heap.size + 1, 1, none⟩ v1).setCell ⟨w.heap.size + 1, 2, none⟩ v2).setCell ⟨w.heap.size + 1, 3, none⟩ v3).setCell ⟨w.heap.size + 1, 4, none⟩ v4).cell? ⟨w.heap.size, 4, none⟩ = some (.int .i64 wh))) := fun W v0 v1 v2 v3 v4 hS => by
    obtain ⟨s0, s1, s2, s3, s4, s5⟩ := hS
    refine ⟨((((s0.setCell (by simp) _).setCell (by simp) _).setCell (by simp) _).setCell (by simp) _).setCell (by simp) _, ?_, ?_, ?_, ?_, ?_⟩ <;>
      (rw [World.cell?_setCell_far _ _ _ _ (by simp only []; omega), World.cell?_setCell_far _ _ _ _ (by simp only []; omega), World.cell?_setCell_far _ _ _ _ (by simp only []; omega), World.cell?_setCell_far _ _ _ _ (by simp only []; omega), World.cell?_setCell_far _ _ _ _ (by simp only []; omega)]; assumption)
  have HG : Hid (∀ W, Below (w.heap.size + 1) w2 W → Below w.heap.size w W) := fun W h => hb2.trans (h.mono (by omega))
  have HR : Hid (∀ W, Below w2.heap.size w2 W → (W.cell? ⟨w.heap.size + 1, 0, none⟩ = some (.string ⟨#[]⟩) ∧ W.cell? ⟨w.heap.size + 1, 1, none⟩ = some (.string ⟨#[]⟩) ∧ W.cell? ⟨w.heap.size + 1, 2, none⟩ = some (.int .i64 0) ∧ W.cell? ⟨w.heap.size + 1, 3, none⟩ = some (.int .i64 0) ∧ W.cell? ⟨w.heap.size + 1, 4, none⟩ = some (.int .i64 0)) ∧ ∀ o, W.frozen? ⟨w.heap.size + 1, o, none⟩ = false) := fun W h => by
    have hk : W.heap[w.heap.size + 1]? = _ := (h.block _ (lt_of_get hk2)).trans hk2
    have hcc := fun j => cell_of_row W _ j _ _ _ hk
    exact ⟨⟨hcc 0, hcc 1, hcc 2, hcc 3, hcc 4⟩, fun o => by simp [World.frozen?, hk]⟩
  have HW : Hid _ := hw2
  clear hw2 hb2 hk1 hk2 q1 hsz
  go_enter Tryd.func10, Tryd.ntmps10
  go_wp2_with fail
  rw [HW.out]
  go_region_held3 (fun W => Below (w.heap.size + 1) w2 W ∧ W.cell? ⟨w.heap.size, 0, none⟩ = some (.int .i64 sn) ∧ W.cell? ⟨w.heap.size, 1, none⟩ = some (.int .i64 tg) ∧ W.cell? ⟨w.heap.size, 2, none⟩ = some (.int .i64 wa) ∧ W.cell? ⟨w.heap.size, 3, none⟩ = some (.int .i64 nd) ∧ W.cell? ⟨w.heap.size, 4, none⟩ = some (.int .i64 wh)) (first | with_reducible assumption | with_reducible exact KD.out _ (by assumption) | with_reducible exact KB.out _ _ (by assumption) (by assumption) | with_reducible exact KS.out _ _ _ _ _ _ (by assumption) | go_keep)
    (first
      | (go_at_call_of 22 (Value.int IntKind.i64 sn); refine (W1 _).mono ?_; rintro e w3 ⟨rfl, hb3⟩)
      | (go_at_call_of 22 (Value.int IntKind.i64 tg); refine (W2 _).mono ?_; rintro e w4 ⟨rfl, hb4⟩; obtain ⟨⟨r0, r1, r2, r3, r4⟩, gf⟩ := HR.out _ (Below.trans ⟨hb3.os, hb3.tape, hb3.output, hb3.size, hb3.block⟩ (hb4.mono hb3.size)); have g0 := gf 0; have g1 := gf 1; have g2 := gf 2; have g3 := gf 3; have g4 := gf 4; clear gf))
  rename_i hHeld
  have HBl : Hid _ := HG.out _ hHeld.1
  clear hHeld KB KD KS HR HG hS0 hb3 hb4 W1 W2
  go_wp2
  refine bodyPost_ret (v := .agg #[S us, S ut, .int .i64 wa, .int .i64 nd, .int .i64 wh]) (by simp [results, Tryd.results10, go_sem, cell_set_same, cell_set_off, some_set, r0, r1, r2, r3, r4]) rfl ?_
  exact ⟨rfl, HBl.out⟩
end Go.Proofs.YtfkdailfcmnjlaaDoor
