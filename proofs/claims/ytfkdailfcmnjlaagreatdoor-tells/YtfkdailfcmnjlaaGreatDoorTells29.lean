/-
  The last ones, with the memory that is left told outright. A choice that is written. What a scene tells, by numbers. The three rows of what was made, in memory. A condition of one word, laid behind those of its type. A condition of one word, laid behind those of its type: members, truths.
-/
import Derived.Test.YtfkdailfcmnjlaaGreatDoorTells01
import Derived.Test.YtfkdailfcmnjlaaGreatDoorTells02
import Derived.Test.YtfkdailfcmnjlaaGreatDoorTells03
import Derived.Test.YtfkdailfcmnjlaaGreatDoorTells04
import Derived.Test.YtfkdailfcmnjlaaGreatDoorTells05
import Derived.Test.YtfkdailfcmnjlaaGreatDoorTells06
import Derived.Test.YtfkdailfcmnjlaaGreatDoorTells07
import Derived.Test.YtfkdailfcmnjlaaGreatDoorTells08
import Derived.Test.YtfkdailfcmnjlaaGreatDoorTells09
import Derived.Test.YtfkdailfcmnjlaaGreatDoorTells10
import Derived.Test.YtfkdailfcmnjlaaGreatDoorTells11
import Derived.Test.YtfkdailfcmnjlaaGreatDoorTells12
import Derived.Test.YtfkdailfcmnjlaaGreatDoorTells13
import Derived.Test.YtfkdailfcmnjlaaGreatDoorTells14
import Derived.Test.YtfkdailfcmnjlaaGreatDoorTells15
import Derived.Test.YtfkdailfcmnjlaaGreatDoorTells16
import Derived.Test.YtfkdailfcmnjlaaGreatDoorTells17
import Derived.Test.YtfkdailfcmnjlaaGreatDoorTells18
import Derived.Test.YtfkdailfcmnjlaaGreatDoorTells19
import Derived.Test.YtfkdailfcmnjlaaGreatDoorTells20
import Derived.Test.YtfkdailfcmnjlaaGreatDoorTells21
import Derived.Test.YtfkdailfcmnjlaaGreatDoorTells22
import Derived.Test.YtfkdailfcmnjlaaGreatDoorTells23
import Derived.Test.YtfkdailfcmnjlaaGreatDoorTells24
import Derived.Test.YtfkdailfcmnjlaaGreatDoorTells25
import Derived.Test.YtfkdailfcmnjlaaGreatDoorTells26
import Derived.Test.YtfkdailfcmnjlaaGreatDoorTells27
import Derived.Test.YtfkdailfcmnjlaaGreatDoorTells28
import Derived.Test.YtfkdailfcmnjlaaGreatDoorLays
import Derived.Test.YtfkdailfcmnjlaaGreatDoorLays2
import Derived.WalkKit
import Derived.Deep.QuietTactic
import Derived.BigQuiet
import Derived.WalkSpells
import GoSem.Op.String
import Derived.Deep.AppendLies
import Derived.Deep.RegionHeld3
import Derived.Deep.DrawnRows
import Derived.Deep.RegionHeldLaw
import Derived.Deep.RegionLaw
import Derived.Lib.ParseIntBCases
import Derived.Deep.OwnRows
import Derived.Lib.LaidTab
import Derived.Lib.AppendIntMem
import Derived.Shelf.Strings.Builder1
import Derived.Laws.CopyOwn
import Derived.Deep.DeepCutAuto
import Derived.WalkSmall
import Derived.Lib.AppendZerosOnto
import Derived.Shelf.Abstract
set_option linter.unusedVariables false
set_option linter.unusedSimpArgs false
namespace Go.Proofs.YtfkdailfcmnjlaaGreatDoor
open Go Go.RowKit
set_option maxRecDepth 100000
attribute [local go_sem ↓] Go.wp_at_zero Go.wp_at_succ

/-- A made as a block. -/
def mkO (m : Mk) : Obj := .cells #[S m.text, S m.bare, .int .i64 m.told, .int .i64 (m.deep : Nat)] 104
set_option maxHeartbeats 4000000 in
theorem last_exact {b : Nat} {v : Value} {l : List Mk} {n : Int} (hn : In64 n) (hl : l.length ≤ 1000) (o : Mk) (w : World) (h : MR b w v l) : Calls Tryz.prog 72 #[v, .int .i64 n, mkV o] w fun e w' => e = .returned (mkV (lastM l n o)) ∧ w' = (w.alloc (mkO o)).alloc (mkO (lastM l n o)) := by
  by_cases h0 : l.length = 0
  · have hl0 : l = [] := List.length_eq_zero_iff.1 h0
    subst hl0
    obtain ⟨a, cap, rfl⟩ := row_sl h
    have HE : Hid (lastM [] n o = o) := rfl
    generalize lastM [] n o = r at *
    clear h
    unfold mkV mkO
    go_enter Tryz.func72, Tryz.ntmps72
    go_wp2_with fail
    refine bodyPost_ret (v := .agg #[S o.text, S o.bare, .int .i64 o.told, .int .i64 (o.deep : Nat)]) (by simp [results, Tryz.results72, go_sem]) rfl ?_
    exact ⟨by rw [HE.out], by rw [HE.out]⟩
  · have hp : 0 < l.length := by omega
    have W1 := fun w => pickN_any hn hp (by omega) w
    have hlt := pickN_lt n hp
    have HE : Hid (lastM l n o = l.getD (l.length - 1 - pickN n l.length) noMk) := by show _ = _; unfold lastM; rw [if_neg h0]
    obtain ⟨g, cap, rfl, _, _⟩ := World.ownsRow.form h hp
    obtain ⟨c0, c1, c2, c3⟩ := MR.cells h (i := l.length - 1 - pickN n l.length) (by omega)
    generalize lastM l n o = r at *
    generalize l.getD (l.length - 1 - pickN n l.length) noMk = m at *
    generalize hj : l.length - 1 - pickN n l.length = j at *
    generalize pickN n l.length = k at *
    have hji : (l.length : Int) - 1 - (k : Int) = (j : Int) := by omega
    have hjw : IntKind.i64.wrap (j : Int) = (j : Int) := by rw [IntKind.wrap_i64]; omega
    have hj0 : (0 : Int) ≤ (j : Int) ∧ (j : Int) < (l.length : Int) := by omega
    have HJ : Hid _ := hj
    clear h hj
    generalize l.length = N at *
    have hN : ((N : Int) == 0) = false := by simp; omega
    unfold mkV mkO
    go_enter Tryz.func72, Tryz.ntmps72
    go_wp2_with (go_at_call 36; refine (W1 _).mono ?_; rintro e w' ⟨rfl, rfl⟩)
    refine bodyPost_ret (v := .agg #[S m.text, S m.bare, .int .i64 m.told, .int .i64 (m.deep : Nat)]) (by simp [results, Tryz.results72, go_sem]) rfl ?_
    exact ⟨by rw [HE.out], by rw [HE.out]⟩
end Go.Proofs.YtfkdailfcmnjlaaGreatDoor

namespace Go.Proofs.YtfkdailfcmnjlaaGreatDoor
open Go Go.RowKit
set_option maxRecDepth 100000
attribute [local go_sem ↓] Go.wp_at_zero Go.wp_at_succ

def ifM (x a b : Mk) : Mk := ⟨wsIf ++ x.text ++ wsThen ++ a.text ++ wsElse ++ b.text ++ [41], [105, 102, 40] ++ x.bare ++ [41, 116, 104, 101, 110, 40] ++ a.bare ++ [41, 101, 108, 115, 101, 40] ++ b.bare ++ [41], if x.told = 1 then a.told else b.told, max (max x.deep a.deep) b.deep + 1⟩
set_option maxHeartbeats 4000000 in
theorem choice_any (x a b : Mk) (hx : x.text.length ≤ 1000 ∧ x.bare.length ≤ 1000 ∧ x.deep ≤ 100) (ha : a.text.length ≤ 1000 ∧ a.bare.length ≤ 1000 ∧ a.deep ≤ 100) (hb : b.text.length ≤ 1000 ∧ b.bare.length ≤ 1000 ∧ b.deep ≤ 100) (w : World) : Calls Tryz.prog 77 #[mkV x, mkV a, mkV b] w fun e w' => e = .returned (mkV (ifM x a b)) ∧ Below w.heap.size w w' := by
  have W1 := fun w => deeper_any x.deep a.deep b.deep (by omega) (by omega) (by omega) w
  have HD : Hid (max (max x.deep a.deep) b.deep + 1 = (ifM x a b).deep) := rfl
  rw [HD.out] at W1
  generalize hr : ifM x a b = r at *
  obtain ⟨xt, xb, xv, xd⟩ := x
  obtain ⟨at_, ab, av, ad⟩ := a
  obtain ⟨bt, bb, bv, bd⟩ := b
  simp only [] at *
  have HR : Hid _ := hr
  clear HD hr
  have HT : Hid (r.text = wsIf ++ xt ++ wsThen ++ at_ ++ wsElse ++ bt ++ [41]) := by show _ = _; rw [← HR.out]; rfl
  have HBr : Hid (r.bare = [105, 102, 40] ++ xb ++ [41, 116, 104, 101, 110, 40] ++ ab ++ [41, 101, 108, 115, 101, 40] ++ bb ++ [41]) := by show _ = _; rw [← HR.out]; rfl
  have HV : Hid (r.told = if xv = 1 then av else bv) := by show _ = _; rw [← HR.out]; rfl
  unfold mkV
  simp only []
  obtain ⟨wz, hwz⟩ : ∃ wz, (((w.alloc (.cells #[S xt, S xb, .int .i64 xv, .int .i64 (xd : Nat)] 104)).alloc (.cells #[S at_, S ab, .int .i64 av, .int .i64 (ad : Nat)] 104)).alloc (.cells #[S bt, S bb, .int .i64 bv, .int .i64 (bd : Nat)] 104)).alloc (.cells #[.string ⟨#[]⟩, .string ⟨#[]⟩, .int .i64 0, .int .i64 0] 104) = wz := ⟨_, rfl⟩
  have hB0 : Below w.heap.size w wz := by rw [← hwz]; exact ((((Below.refl _ _).alloc (Nat.le_refl _) _).alloc (by simp) _).alloc (by simp; omega) _).alloc (by simp; omega) _
  have hX0 : wz.heap[w.heap.size]? = some (.cells #[S xt, S xb, .int .i64 xv, .int .i64 (xd : Nat)] 104 (0, 0)) := by rw [← hwz]; exact (Below.heap_alloc _ _ _ (by simp; omega)).trans ((Below.heap_alloc _ _ _ (by simp; omega)).trans ((Below.heap_alloc _ _ _ (by simp)).trans (heap_alloc_new w _)))
  have hX1 : wz.heap[w.heap.size + 1]? = some (.cells #[S at_, S ab, .int .i64 av, .int .i64 (ad : Nat)] 104 (0, 0)) := by
    rw [← hwz]
    refine (Below.heap_alloc _ _ _ (by first | (simp; done) | (simp; omega))).trans ((Below.heap_alloc _ _ _ (by simp)).trans ?_)
    have := heap_alloc_new (w.alloc (.cells #[S xt, S xb, .int .i64 xv, .int .i64 (xd : Nat)] 104)) (.cells #[S at_, S ab, .int .i64 av, .int .i64 (ad : Nat)] 104)
    rw [World.size_alloc] at this; exact this
  have hX2 : wz.heap[w.heap.size + 1 + 1]? = some (.cells #[S bt, S bb, .int .i64 bv, .int .i64 (bd : Nat)] 104 (0, 0)) := by
    rw [← hwz]
    refine (Below.heap_alloc _ _ _ (by simp)).trans ?_
    have := heap_alloc_new ((w.alloc (.cells #[S xt, S xb, .int .i64 xv, .int .i64 (xd : Nat)] 104)).alloc (.cells #[S at_, S ab, .int .i64 av, .int .i64 (ad : Nat)] 104)) (.cells #[S bt, S bb, .int .i64 bv, .int .i64 (bd : Nat)] 104)
    rw [World.size_alloc, World.size_alloc] at this; exact this
  have hX3 : wz.heap[w.heap.size + 1 + 1 + 1]? = some (.cells #[.string ⟨#[]⟩, .string ⟨#[]⟩, .int .i64 0, .int .i64 0] 104 (0, 0)) := by
    rw [← hwz]
    have := heap_alloc_new (((w.alloc (.cells #[S xt, S xb, .int .i64 xv, .int .i64 (xd : Nat)] 104)).alloc (.cells #[S at_, S ab, .int .i64 av, .int .i64 (ad : Nat)] 104)).alloc (.cells #[S bt, S bb, .int .i64 bv, .int .i64 (bd : Nat)] 104)) (.cells #[.string ⟨#[]⟩, .string ⟨#[]⟩, .int .i64 0, .int .i64 0] 104)
    rw [World.size_alloc, World.size_alloc, World.size_alloc] at this; exact this
  have hsz : wz.heap.size = w.heap.size + 1 + 1 + 1 + 1 := by rw [← hwz, World.size_alloc, World.size_alloc, World.size_alloc, World.size_alloc]
  have q0 := fun j => cell_of_row wz _ j _ _ _ hX0
  have q1 := fun j => cell_of_row wz _ j _ _ _ hX1
  have q2 := fun j => cell_of_row wz _ j _ _ _ hX2
  have hS0 : Below wz.heap.size wz wz ∧ wz.cell? ⟨w.heap.size, 0, none⟩ = some (S xt) ∧ wz.cell? ⟨w.heap.size, 1, none⟩ = some (S xb) ∧ wz.cell? ⟨w.heap.size, 3, none⟩ = some (.int .i64 (xd : Nat)) ∧ wz.cell? ⟨w.heap.size + 1, 0, none⟩ = some (S at_) ∧ wz.cell? ⟨w.heap.size + 1, 1, none⟩ = some (S ab) ∧ wz.cell? ⟨w.heap.size + 1, 3, none⟩ = some (.int .i64 (ad : Nat)) ∧ wz.cell? ⟨w.heap.size + 1 + 1, 0, none⟩ = some (S bt) ∧ wz.cell? ⟨w.heap.size + 1 + 1, 1, none⟩ = some (S bb) ∧ wz.cell? ⟨w.heap.size + 1 + 1, 2, none⟩ = some (.int .i64 bv) ∧ wz.cell? ⟨w.heap.size + 1 + 1, 3, none⟩ = some (.int .i64 (bd : Nat)) := ⟨Below.refl _ _, q0 0, q0 1, q0 3, q1 0, q1 1, q1 3, q2 0, q2 1, q2 2, q2 3⟩
  have KP : Hid (∀ W W' : World, (Below wz.heap.size wz W ∧ W.cell? ⟨w.heap.size, 0, none⟩ = some (S xt) ∧ W.cell? ⟨w.heap.size, 1, none⟩ = some (S xb) ∧ W.cell? ⟨w.heap.size, 3, none⟩ = some (.int .i64 (xd : Nat)) ∧ W.cell? ⟨w.heap.size + 1, 0, none⟩ = some (S at_) ∧ W.cell? ⟨w.heap.size + 1, 1, none⟩ = some (S ab) ∧ W.cell? ⟨w.heap.size + 1, 3, none⟩ = some (.int .i64 (ad : Nat)) ∧ W.cell? ⟨w.heap.size + 1 + 1, 0, none⟩ = some (S bt) ∧ W.cell? ⟨w.heap.size + 1 + 1, 1, none⟩ = some (S bb) ∧ W.cell? ⟨w.heap.size + 1 + 1, 2, none⟩ = some (.int .i64 bv) ∧ W.cell? ⟨w.heap.size + 1 + 1, 3, none⟩ = some (.int .i64 (bd : Nat))) → Below W.heap.size W W' → (Below wz.heap.size wz W' ∧ W'.cell? ⟨w.heap.size, 0, none⟩ = some (S xt) ∧ W'.cell? ⟨w.heap.size, 1, none⟩ = some (S xb) ∧ W'.cell? ⟨w.heap.size, 3, none⟩ = some (.int .i64 (xd : Nat)) ∧ W'.cell? ⟨w.heap.size + 1, 0, none⟩ = some (S at_) ∧ W'.cell? ⟨w.heap.size + 1, 1, none⟩ = some (S ab) ∧ W'.cell? ⟨w.heap.size + 1, 3, none⟩ = some (.int .i64 (ad : Nat)) ∧ W'.cell? ⟨w.heap.size + 1 + 1, 0, none⟩ = some (S bt) ∧ W'.cell? ⟨w.heap.size + 1 + 1, 1, none⟩ = some (S bb) ∧ W'.cell? ⟨w.heap.size + 1 + 1, 2, none⟩ = some (.int .i64 bv) ∧ W'.cell? ⟨w.heap.size + 1 + 1, 3, none⟩ = some (.int .i64 (bd : Nat)))) := fun W W' hS hb => by
    obtain ⟨hb0, s1, s2, s3, s4, s5, s6, s7, s8, s9, s10⟩ := hS
    refine ⟨hb0.trans (hb.mono hb0.size), ?_, ?_, ?_, ?_, ?_, ?_, ?_, ?_, ?_, ?_⟩
    all_goals (rw [hb.cell (World.block_lt_of_cell? W _ (by assumption))]; assumption)
  have KD : Hid (∀ W : World, (Below wz.heap.size wz W ∧ W.cell? ⟨w.heap.size, 0, none⟩ = some (S xt) ∧ W.cell? ⟨w.heap.size, 1, none⟩ = some (S xb) ∧ W.cell? ⟨w.heap.size, 3, none⟩ = some (.int .i64 (xd : Nat)) ∧ W.cell? ⟨w.heap.size + 1, 0, none⟩ = some (S at_) ∧ W.cell? ⟨w.heap.size + 1, 1, none⟩ = some (S ab) ∧ W.cell? ⟨w.heap.size + 1, 3, none⟩ = some (.int .i64 (ad : Nat)) ∧ W.cell? ⟨w.heap.size + 1 + 1, 0, none⟩ = some (S bt) ∧ W.cell? ⟨w.heap.size + 1 + 1, 1, none⟩ = some (S bb) ∧ W.cell? ⟨w.heap.size + 1 + 1, 2, none⟩ = some (.int .i64 bv) ∧ W.cell? ⟨w.heap.size + 1 + 1, 3, none⟩ = some (.int .i64 (bd : Nat))) → (Below wz.heap.size wz W.drew ∧ W.drew.cell? ⟨w.heap.size, 0, none⟩ = some (S xt) ∧ W.drew.cell? ⟨w.heap.size, 1, none⟩ = some (S xb) ∧ W.drew.cell? ⟨w.heap.size, 3, none⟩ = some (.int .i64 (xd : Nat)) ∧ W.drew.cell? ⟨w.heap.size + 1, 0, none⟩ = some (S at_) ∧ W.drew.cell? ⟨w.heap.size + 1, 1, none⟩ = some (S ab) ∧ W.drew.cell? ⟨w.heap.size + 1, 3, none⟩ = some (.int .i64 (ad : Nat)) ∧ W.drew.cell? ⟨w.heap.size + 1 + 1, 0, none⟩ = some (S bt) ∧ W.drew.cell? ⟨w.heap.size + 1 + 1, 1, none⟩ = some (S bb) ∧ W.drew.cell? ⟨w.heap.size + 1 + 1, 2, none⟩ = some (.int .i64 bv) ∧ W.drew.cell? ⟨w.heap.size + 1 + 1, 3, none⟩ = some (.int .i64 (bd : Nat)))) := fun W hS => ⟨hS.1.drew, hS.2⟩
  have HC : Hid ((∀ W, Below wz.heap.size wz W → W.cell? ⟨w.heap.size, 2, none⟩ = some (.int .i64 xv) ∧ W.cell? ⟨w.heap.size + 1, 2, none⟩ = some (.int .i64 av) ∧ W.heap[w.heap.size + 1 + 1 + 1]? = some (.cells #[.string ⟨#[]⟩, .string ⟨#[]⟩, .int .i64 0, .int .i64 0] 104 (0, 0)))) := fun W h => by
    refine ⟨?_, ?_, (h.block _ (by omega)).trans hX3⟩
    · rw [h.cell (p := ⟨w.heap.size, 2, none⟩) (by simp only []; omega)]; exact q0 2
    · rw [h.cell (p := ⟨w.heap.size + 1, 2, none⟩) (by simp only []; omega)]; exact q1 2
  have hx2 : wz.cell? ⟨w.heap.size, 2, none⟩ = some (.int .i64 xv) := q0 2
  have ha2 : wz.cell? ⟨w.heap.size + 1, 2, none⟩ = some (.int .i64 av) := q1 2
  have q3 := fun j => cell_of_row wz _ j _ _ _ hX3
  have qf : ∀ o, wz.frozen? ⟨w.heap.size + 1 + 1 + 1, o, none⟩ = false := fun o => by simp [World.frozen?, hX3]
  have r0 : wz.cell? ⟨w.heap.size + 1 + 1 + 1, 0, none⟩ = some (.string ⟨#[]⟩) := q3 0
  have g0 := qf 0
  have r1 : wz.cell? ⟨w.heap.size + 1 + 1 + 1, 1, none⟩ = some (.string ⟨#[]⟩) := q3 1
  have g1 := qf 1
  have r2 : wz.cell? ⟨w.heap.size + 1 + 1 + 1, 2, none⟩ = some (.int .i64 0) := q3 2
  have g2 := qf 2
  have r3 : wz.cell? ⟨w.heap.size + 1 + 1 + 1, 3, none⟩ = some (.int .i64 0) := q3 3
  have g3 := qf 3
  have n0a : w.heap.size < wz.heap.size := by omega
  have n0b : w.heap.size ≠ wz.heap.size := by omega
  have n0c : wz.heap.size ≠ w.heap.size := by omega
  have n1a : w.heap.size + 1 < wz.heap.size := by omega
  have n1b : w.heap.size + 1 ≠ wz.heap.size := by omega
  have n1c : wz.heap.size ≠ w.heap.size + 1 := by omega
  have n3a : w.heap.size + 1 + 1 + 1 < wz.heap.size := by omega
  have n3b : w.heap.size + 1 + 1 + 1 ≠ wz.heap.size := by omega
  have n3c : wz.heap.size ≠ w.heap.size + 1 + 1 + 1 := by omega
  clear q3 qf
  have HW : Hid _ := hwz
  have HB0 : Hid _ := hB0
  clear hwz hB0 hX0 hX1 hX2 hX3 q0 q1 q2 HR hsz
  have lt0 : ¬ 9223372036854775807 < 4 + xt.length := by omega
  have lt1 : ¬ 9223372036854775807 < 4 + xt.length + 6 := by omega
  have lt2 : ¬ 9223372036854775807 < 4 + xt.length + 6 + at_.length := by omega
  have lt3 : ¬ 9223372036854775807 < 4 + xt.length + 6 + at_.length + 6 := by omega
  have lt4 : ¬ 9223372036854775807 < 4 + xt.length + 6 + at_.length + 6 + bt.length := by omega
  have lt5 : ¬ 9223372036854775807 < 4 + xt.length + 6 + at_.length + 6 + bt.length + 1 := by omega
  have lb0 : ¬ 9223372036854775807 < 3 + xb.length := by omega
  have lb1 : ¬ 9223372036854775807 < 3 + xb.length + 6 := by omega
  have lb2 : ¬ 9223372036854775807 < 3 + xb.length + 6 + ab.length := by omega
  have lb3 : ¬ 9223372036854775807 < 3 + xb.length + 6 + ab.length + 6 := by omega
  have lb4 : ¬ 9223372036854775807 < 3 + xb.length + 6 + ab.length + 6 + bb.length := by omega
  have lb5 : ¬ 9223372036854775807 < 3 + xb.length + 6 + ab.length + 6 + bb.length + 1 := by omega
  have HAl : Hid (∀ (W : World) (O : Obj) (o : Nat), W.heap.size = wz.heap.size → (W.alloc O).drew.cell? ⟨w.heap.size + 1 + 1 + 1, o, none⟩ = W.cell? ⟨w.heap.size + 1 + 1 + 1, o, none⟩) := fun W O o h => World.cell?_of_block (w := W) (a := ⟨w.heap.size + 1 + 1 + 1, o, none⟩) (Below.heap_alloc W O _ (by rw [h]; exact n3a))
  have eX : Hid (((⟨#[40, 105, 102, 32]⟩ : ByteArray) ++ (⟨xt.toArray⟩ : ByteArray) ++ (⟨#[32, 116, 104, 101, 110, 32]⟩ : ByteArray) ++ (⟨at_.toArray⟩ : ByteArray) ++ (⟨#[32, 101, 108, 115, 101, 32]⟩ : ByteArray) ++ (⟨bt.toArray⟩ : ByteArray) ++ (⟨#[41]⟩ : ByteArray)) = ⟨(wsIf ++ xt ++ wsThen ++ at_ ++ wsElse ++ bt ++ [41] : List UInt8).toArray⟩) := ByteArray.ext (by simp [wsIf, wsThen, wsElse])
  have eY : Hid (((⟨#[105, 102, 40]⟩ : ByteArray) ++ (⟨xb.toArray⟩ : ByteArray) ++ (⟨#[41, 116, 104, 101, 110, 40]⟩ : ByteArray) ++ (⟨ab.toArray⟩ : ByteArray) ++ (⟨#[41, 101, 108, 115, 101, 40]⟩ : ByteArray) ++ (⟨bb.toArray⟩ : ByteArray) ++ (⟨#[41]⟩ : ByteArray)) = ⟨([105, 102, 40] ++ xb ++ [41, 116, 104, 101, 110, 40] ++ ab ++ [41, 101, 108, 115, 101, 40] ++ bb ++ [41] : List UInt8).toArray⟩) := ByteArray.ext (by simp)
  go_enter Tryz.func77, Tryz.ntmps77
  go_wp2_with fail
  rw [HW.out]
  go_region_held3 (fun W => Below wz.heap.size wz W ∧ W.cell? ⟨w.heap.size, 0, none⟩ = some (S xt) ∧ W.cell? ⟨w.heap.size, 1, none⟩ = some (S xb) ∧ W.cell? ⟨w.heap.size, 3, none⟩ = some (.int .i64 (xd : Nat)) ∧ W.cell? ⟨w.heap.size + 1, 0, none⟩ = some (S at_) ∧ W.cell? ⟨w.heap.size + 1, 1, none⟩ = some (S ab) ∧ W.cell? ⟨w.heap.size + 1, 3, none⟩ = some (.int .i64 (ad : Nat)) ∧ W.cell? ⟨w.heap.size + 1 + 1, 0, none⟩ = some (S bt) ∧ W.cell? ⟨w.heap.size + 1 + 1, 1, none⟩ = some (S bb) ∧ W.cell? ⟨w.heap.size + 1 + 1, 2, none⟩ = some (.int .i64 bv) ∧ W.cell? ⟨w.heap.size + 1 + 1, 3, none⟩ = some (.int .i64 (bd : Nat))) (first | with_reducible assumption | with_reducible exact KD.out _ (by assumption) | exact KP.out _ _ (by assumption) ((Below.refl _ _).alloc (Nat.le_refl _) _) | exact KD.out _ (KP.out _ _ (by assumption) ((Below.refl _ _).alloc (Nat.le_refl _) _)) | exact KD.out _ (KP.out _ _ hS0 ((Below.refl _ _).alloc (Nat.le_refl _) _)) | go_keep)
    (first
      | (go_at_call 124; refine (W1 _).mono ?_; rintro e w1 ⟨rfl, rfl⟩))
  all_goals
    rename_i hHeld
    have HBy : Hid _ := hHeld.1
    clear hHeld
    by_cases hv : xv = 1
    · subst hv
      go_wp2_with fail
      refine bodyPost_ret (v := .agg #[.string ((⟨#[40, 105, 102, 32]⟩ : ByteArray) ++ (⟨xt.toArray⟩ : ByteArray) ++ (⟨#[32, 116, 104, 101, 110, 32]⟩ : ByteArray) ++ (⟨at_.toArray⟩ : ByteArray) ++ (⟨#[32, 101, 108, 115, 101, 32]⟩ : ByteArray) ++ (⟨bt.toArray⟩ : ByteArray) ++ (⟨#[41]⟩ : ByteArray)), .string ((⟨#[105, 102, 40]⟩ : ByteArray) ++ (⟨xb.toArray⟩ : ByteArray) ++ (⟨#[41, 116, 104, 101, 110, 40]⟩ : ByteArray) ++ (⟨ab.toArray⟩ : ByteArray) ++ (⟨#[41, 101, 108, 115, 101, 40]⟩ : ByteArray) ++ (⟨bb.toArray⟩ : ByteArray) ++ (⟨#[41]⟩ : ByteArray)), .int .i64 av, .int .i64 (r.deep : Nat)]) (by simp [results, Tryz.results77, go_sem, cell_set_same, cell_set_off, some_set, r0, r1, r2, r3, HAl.out]) rfl ?_
      refine ⟨by rw [eX.out, eY.out, HT.out, HBr.out, HV.out, if_pos trivial], ?_⟩
      exact (((((HB0.out.setCell (by simp only []; omega) _).setCell (by simp only []; omega) _).setCell (by simp only []; omega) _).setCell (by simp only []; omega) _).alloc (by simp; omega) _).drew
    · have hvb : (xv == 1) = false := by simp [hv]
      go_wp2_with fail
      refine bodyPost_ret (v := .agg #[.string ((⟨#[40, 105, 102, 32]⟩ : ByteArray) ++ (⟨xt.toArray⟩ : ByteArray) ++ (⟨#[32, 116, 104, 101, 110, 32]⟩ : ByteArray) ++ (⟨at_.toArray⟩ : ByteArray) ++ (⟨#[32, 101, 108, 115, 101, 32]⟩ : ByteArray) ++ (⟨bt.toArray⟩ : ByteArray) ++ (⟨#[41]⟩ : ByteArray)), .string ((⟨#[105, 102, 40]⟩ : ByteArray) ++ (⟨xb.toArray⟩ : ByteArray) ++ (⟨#[41, 116, 104, 101, 110, 40]⟩ : ByteArray) ++ (⟨ab.toArray⟩ : ByteArray) ++ (⟨#[41, 101, 108, 115, 101, 40]⟩ : ByteArray) ++ (⟨bb.toArray⟩ : ByteArray) ++ (⟨#[41]⟩ : ByteArray)), .int .i64 bv, .int .i64 (r.deep : Nat)]) (by simp [results, Tryz.results77, go_sem, cell_set_same, cell_set_off, some_set, r0, r1, r2, r3, HAl.out]) rfl ?_
      refine ⟨by rw [eX.out, eY.out, HT.out, HBr.out, HV.out, if_neg hv], ?_⟩
      exact (((((HB0.out.setCell (by simp only []; omega) _).setCell (by simp only []; omega) _).setCell (by simp only []; omega) _).setCell (by simp only []; omega) _).alloc (by simp; omega) _).drew
end Go.Proofs.YtfkdailfcmnjlaaGreatDoor

namespace Go.Proofs.YtfkdailfcmnjlaaGreatDoor
open Go Go.RowKit
set_option maxRecDepth 100000
attribute [local go_sem ↓] Go.wp_at_zero Go.wp_at_succ

/-- What a scene tells, by numbers. -/
def scF (c : Scn) : List Int := [lvV c c.sn, lvV c c.tg, c.nd, c.wh, isV c c.sn, isV c c.tg, knownI c.wa, truthI (pick3 c.sn == pick3 c.tg), truthI c.op]
theorem scene_size : (Tryz.prog.info? 37).map (·.size) = some 16 := by kernel_rfl
/-- A whole scene loaded, told by a name of its own: so that the walk does not open it cell by cell. -/
def loadSc (p : Value) : Sem Value := Instr.loadAt 37 p
theorem loadAt_sc (p : Value) : Instr.loadAt 37 p = loadSc p := rfl
theorem loadSc_row (W : World) (g : Nat) (cs : Array Value) (h : W.heap[g]? = some (.cells cs 37 (0, 0))) (hs : cs.size = 16) : (loadSc (.pointer (some ⟨g, 0, none⟩))).run Tryz.prog W = .ok (.agg cs) W := by
  unfold loadSc
  simp only [Instr.loadAt, Instr.sureAddr, Sem.run_bind, Sem.run_pure, Result.andThen_ok, run_loadVar_row W g 37 37 cs (0, 0) _ h Tryz.underlying37 rfl (by rw [hs]; exact scene_size)]
attribute [local go_sem ↓] loadAt_sc
set_option maxHeartbeats 8000000 in
theorem field_walk {x0 x1 x2 x5 x6 x7 x8 x9 x10 x11 x12 x13 x14 x15 : Value} {nd wh v0 v1 v4 v5 v6 v8 : Int} {q1 q2 : Nat} {cs : Array Value} (hcs : Hid (#[x0, x1, x2, .int .i64 nd, .int .i64 wh, x5, x6, x7, x8, x9, x10, x11, x12, x13, x14, x15] = cs)) (h1 : q1 < 3) (h2 : q2 < 3) (o0 : x0.oneCell' = true) (o1 : x1.oneCell' = true) (o2 : x2.oneCell' = true) (o5 : x5.oneCell' = true) (o6 : x6.oneCell' = true) (o7 : x7.oneCell' = true) (o8 : x8.oneCell' = true) (o9 : x9.oneCell' = true) (o10 : x10.oneCell' = true) (o11 : x11.oneCell' = true) (o12 : x12.oneCell' = true) (o13 : x13.oneCell' = true) (o14 : x14.oneCell' = true) (o15 : x15.oneCell' = true)
    (W1 : ∀ w, Calls Tryz.prog 121 #[.agg cs, x0] w fun e w' => e = .returned (.int .i64 v0) ∧ Below w.heap.size w w')
    (W2 : ∀ w, Calls Tryz.prog 121 #[.agg cs, x1] w fun e w' => e = .returned (.int .i64 v1) ∧ Below w.heap.size w w')
    (W3 : ∀ w, Calls Tryz.prog 122 #[.agg cs, x0] w fun e w' => e = .returned (.int .i64 v4) ∧ Below w.heap.size w w')
    (W4 : ∀ w, Calls Tryz.prog 122 #[.agg cs, x1] w fun e w' => e = .returned (.int .i64 v5) ∧ Below w.heap.size w w')
    (W5 : ∀ w, Calls Tryz.prog 123 #[x2] w fun e w' => e = .returned (.int .i64 v6) ∧ w' = w)
    (W6 : ∀ w, Calls Tryz.prog 36 #[x0, .int .i64 3] w fun e w' => e = .returned (.int .i64 (q1 : Nat)) ∧ w' = w)
    (W7 : ∀ w, Calls Tryz.prog 36 #[x1, .int .i64 3] w fun e w' => e = .returned (.int .i64 (q2 : Nat)) ∧ w' = w)
    (W8 : ∀ b w, Calls Tryz.prog 76 #[.bool b] w fun e w' => e = .returned (.int .i64 (truthI b)) ∧ w' = w)
    (W9 : ∀ w, Calls Tryz.prog 76 #[x15] w fun e w' => e = .returned (.int .i64 v8) ∧ w' = w)
    {k : Nat} (hk : k < 9) (w : World) (R : Ending → World → Prop) (HR : Hid (∀ w', Below w.heap.size w w' → R (.returned (.tuple #[[.int .i64 v0, .int .i64 v1, .int .i64 nd, .int .i64 wh, .int .i64 v4, .int .i64 v5, .int .i64 v6, .int .i64 (truthI ((q1 : Int) == (q2 : Int))), .int .i64 v8].getD k undef, S (kFields.getD k [])])) w')) :
    Calls Tryz.prog 71 #[.agg #[x0, x1, x2, .int .i64 nd, .int .i64 wh, x5, x6, x7, x8, x9, x10, x11, x12, x13, x14, x15], .int .i64 k] w R := by
  obtain ⟨wz, hwz⟩ : ∃ wz, (w.alloc (.cells #[x0, x1, x2, .int .i64 nd, .int .i64 wh, x5, x6, x7, x8, x9, x10, x11, x12, x13, x14, x15] 37)).alloc (.cells #[S [108, 101, 118, 101, 108], S [114, 97, 110, 107], S [110, 101, 101, 100], S [119, 104, 101, 110], S [115, 101, 110, 100, 101, 114], S [116, 97, 114, 103, 101, 116], S [119, 97, 110, 116, 115], S [115, 101, 108, 102], S [111, 112, 101, 110]] 9) = wz := ⟨_, rfl⟩
  have hB0 : Below w.heap.size w wz := by rw [← hwz]; exact ((Below.refl _ _).alloc (Nat.le_refl _) _).alloc (by simp) _
  have hX0 : wz.heap[w.heap.size]? = some (.cells #[x0, x1, x2, .int .i64 nd, .int .i64 wh, x5, x6, x7, x8, x9, x10, x11, x12, x13, x14, x15] 37 (0, 0)) := by rw [← hwz]; exact (Below.heap_alloc _ _ _ (by simp)).trans (heap_alloc_new w _)
  have hY0 : wz.heap[w.heap.size + 1]? = some (.cells #[S [108, 101, 118, 101, 108], S [114, 97, 110, 107], S [110, 101, 101, 100], S [119, 104, 101, 110], S [115, 101, 110, 100, 101, 114], S [116, 97, 114, 103, 101, 116], S [119, 97, 110, 116, 115], S [115, 101, 108, 102], S [111, 112, 101, 110]] 9 (0, 0)) := by
    rw [← hwz]
    have := heap_alloc_new (w.alloc (.cells #[x0, x1, x2, .int .i64 nd, .int .i64 wh, x5, x6, x7, x8, x9, x10, x11, x12, x13, x14, x15] 37)) (.cells #[S [108, 101, 118, 101, 108], S [114, 97, 110, 107], S [110, 101, 101, 100], S [119, 104, 101, 110], S [115, 101, 110, 100, 101, 114], S [116, 97, 114, 103, 101, 116], S [119, 97, 110, 116, 115], S [115, 101, 108, 102], S [111, 112, 101, 110]] 9)
    rw [World.size_alloc] at this; exact this
  have hq := fun j => cell_of_row wz _ j _ _ _ hX0
  have hS0 : Below wz.heap.size wz wz := Below.refl _ _
  have hlt0 : w.heap.size < wz.heap.size := lt_of_get hX0
  have HO : ∀ W, Below wz.heap.size wz W → (loadSc (.pointer (some ⟨w.heap.size, 0, none⟩))).run Tryz.prog W = .ok (.agg cs) W := fun W h => by
    rw [← hcs.out]
    exact loadSc_row W _ _ ((h.block _ hlt0).trans hX0) rfl
  have H0 : ∀ W, Below wz.heap.size wz W → W.cell? ⟨w.heap.size, 0, none⟩ = some (x0) := fun W h => by rw [h.cell (p := ⟨w.heap.size, 0, none⟩) hlt0]; exact hq 0
  have H1 : ∀ W, Below wz.heap.size wz W → W.cell? ⟨w.heap.size, 1, none⟩ = some (x1) := fun W h => by rw [h.cell (p := ⟨w.heap.size, 1, none⟩) hlt0]; exact hq 1
  have H2 : ∀ W, Below wz.heap.size wz W → W.cell? ⟨w.heap.size, 2, none⟩ = some (x2) := fun W h => by rw [h.cell (p := ⟨w.heap.size, 2, none⟩) hlt0]; exact hq 2
  have H3 : ∀ W, Below wz.heap.size wz W → W.cell? ⟨w.heap.size, 3, none⟩ = some (.int .i64 nd) := fun W h => by rw [h.cell (p := ⟨w.heap.size, 3, none⟩) hlt0]; exact hq 3
  have H4 : ∀ W, Below wz.heap.size wz W → W.cell? ⟨w.heap.size, 4, none⟩ = some (.int .i64 wh) := fun W h => by rw [h.cell (p := ⟨w.heap.size, 4, none⟩) hlt0]; exact hq 4
  have H15 : ∀ W, Below wz.heap.size wz W → W.cell? ⟨w.heap.size, 15, none⟩ = some (x15) := fun W h => by rw [h.cell (p := ⟨w.heap.size, 15, none⟩) hlt0]; exact hq 15
  have KP : Hid (∀ W W' : World, Below wz.heap.size wz W → Below W.heap.size W W' → Below wz.heap.size wz W') := fun W W' h hb => h.trans (hb.mono h.size)
  have KD : Hid (∀ W : World, Below wz.heap.size wz W → Below wz.heap.size wz W.drew) := fun W h => h.drew
  clear hlt0
  have HW : Hid _ := hwz
  have HB0 : Hid _ := hB0
  have HY0 : Hid _ := hY0
  clear hwz hB0 hX0 hY0 hq
  go_enter Tryz.func71, Tryz.ntmps71
  go_wp2_with fail
  rw [HW.out]
  go_region_held3 (fun w' => Below wz.heap.size wz w') (first | exact KD.out _ (by assumption) | exact KP.out _ _ (by assumption) (by assumption) | exact KP.out _ _ (by assumption) ((Below.refl _ _).alloc (Nat.le_refl _) _) | assumption | go_keep)
    (first
      | (go_at_call 121; (first | with_reducible refine Calls.mono (W1 _) ?_ | with_reducible refine Calls.mono (W2 _) ?_); rintro e w1 ⟨rfl, hb1⟩)
      | (go_at_call 122; (first | with_reducible refine Calls.mono (W3 _) ?_ | with_reducible refine Calls.mono (W4 _) ?_); rintro e w1 ⟨rfl, hb1⟩)
      | (go_at_call 123; refine (W5 _).mono ?_; rintro e w1 ⟨rfl, rfl⟩)
      | (go_at_call 36; (first | with_reducible refine Calls.mono (W6 _) ?_ | with_reducible refine Calls.mono (W7 _) ?_); rintro e w1 ⟨rfl, rfl⟩)
      | (go_at_call 76; (first | with_reducible refine Calls.mono (W9 _) ?_ | with_reducible refine Calls.mono (W8 _ _) ?_); rintro e w1 ⟨rfl, rfl⟩))
  rename_i hHeld
  have hYw := (hHeld.block _ (lt_of_get HY0.out)).trans HY0.out
  have hNw := heap_alloc_new w1 (.cells #[.int .i64 v0, .int .i64 v1, .int .i64 nd, .int .i64 wh, .int .i64 v4, .int .i64 v5, .int .i64 v6, .int .i64 (truthI ((q1 : Int) == (q2 : Int))), .int .i64 v8] 2)
  have hBy := HB0.out.trans (hHeld.mono HB0.out.size)
  have e9 : k = 0 ∨ k = 1 ∨ k = 2 ∨ k = 3 ∨ k = 4 ∨ k = 5 ∨ k = 6 ∨ k = 7 ∨ k = 8 := by omega
  have v1' : (#[.int .i64 v0, .int .i64 v1, .int .i64 nd, .int .i64 wh, .int .i64 v4, .int .i64 v5, .int .i64 v6, .int .i64 (truthI ((q1 : Int) == (q2 : Int))), .int .i64 v8] : Array Value)[k]? = some (([.int .i64 v0, .int .i64 v1, .int .i64 nd, .int .i64 wh, .int .i64 v4, .int .i64 v5, .int .i64 v6, .int .i64 (truthI ((q1 : Int) == (q2 : Int))), .int .i64 v8] : List Value).getD k undef) := by rcases e9 with rfl | rfl | rfl | rfl | rfl | rfl | rfl | rfl | rfl <;> rfl
  have v2' : (#[S [108, 101, 118, 101, 108], S [114, 97, 110, 107], S [110, 101, 101, 100], S [119, 104, 101, 110], S [115, 101, 110, 100, 101, 114], S [116, 97, 114, 103, 101, 116], S [119, 97, 110, 116, 115], S [115, 101, 108, 102], S [111, 112, 101, 110]] : Array Value)[k]? = some (S (kFields.getD k [])) := by rcases e9 with rfl | rfl | rfl | rfl | rfl | rfl | rfl | rfl | rfl <;> rfl
  have c1 := (cell_of_row _ _ k _ _ _ hNw).trans v1'
  have c2 := (cell_of_row _ _ k _ _ _ hYw).trans v2'
  clear hYw hNw hHeld v1' v2' e9 KP KD W1 W2 W3 W4 W5 W6 W7 W8 W9 H0 H1 H2 H3 H4 H15 HO hS0
  generalize (([.int .i64 v0, .int .i64 v1, .int .i64 nd, .int .i64 wh, .int .i64 v4, .int .i64 v5, .int .i64 v6, .int .i64 (truthI ((q1 : Int) == (q2 : Int))), .int .i64 v8] : List Value).getD k undef) = y1 at *
  generalize kFields.getD k [] = y2 at *
  generalize (w1.alloc (.cells #[.int .i64 v0, .int .i64 v1, .int .i64 nd, .int .i64 wh, .int .i64 v4, .int .i64 v5, .int .i64 v6, .int .i64 (truthI ((q1 : Int) == (q2 : Int))), .int .i64 v8] 2)) = wy at *
  have HBy : Hid _ := hBy
  clear hBy
  have hk1 : (0 : Int) ≤ (k : Int) ∧ (k : Int) < 9 := by omega
  have hS1 : wy.cell? ⟨w1.heap.size, k, none⟩ = some y1 ∧ wy.cell? ⟨w.heap.size + 1, k, none⟩ = some (S y2) := ⟨c1, c2⟩
  go_wp2_with fail
  go_region_held3 (fun W => W.cell? ⟨w1.heap.size, k, none⟩ = some y1 ∧ W.cell? ⟨w.heap.size + 1, k, none⟩ = some (S y2)) (first | assumption | go_keep) (fail)
  all_goals
    go_wp2_with fail
    exact HR.out _ HBy.out.drew
/-- What a scene tells, by its number, and its word. -/
theorem field_any {c : Scn} (hc : ScnIn c) {k : Nat} (hk : k < 9) (w : World) : Calls Tryz.prog 71 #[.agg (scC c), .int .i64 k] w fun e w' => e = .returned (.tuple #[.int .i64 ((scF c).getD k 0), S (kFields.getD k [])]) ∧ Below w.heap.size w w' := by
  have h9 : k = 0 ∨ k = 1 ∨ k = 2 ∨ k = 3 ∨ k = 4 ∨ k = 5 ∨ k = 6 ∨ k = 7 ∨ k = 8 := by omega
  have hq : ((pick3 c.sn : Nat) : Int) == ((pick3 c.tg : Nat) : Int) ↔ (pick3 c.sn == pick3 c.tg) = true := by simp; omega
  refine field_walk (cs := scC c) (show Hid _ from rfl) (pick3_lt c.sn) (pick3_lt c.tg) rfl rfl rfl rfl rfl rfl rfl rfl rfl rfl rfl rfl rfl rfl (fun w => klevel_any hc.sn w) (fun w => klevel_any hc.tg w) (fun w => kis_any hc.sn w) (fun w => kis_any hc.tg w) (fun w => kknown_any c.wa w) (fun w => pick_any hc.sn w) (fun w => pick_any hc.tg w) (fun b w => ktruth_any b w) (fun w => ktruth_any c.op w) hk w _ ?_
  intro w' hb
  refine ⟨?_, hb⟩
  have e : truthI (((pick3 c.sn : Nat) : Int) == ((pick3 c.tg : Nat) : Int)) = truthI (pick3 c.sn == pick3 c.tg) := by
    congr 1
    rw [Bool.eq_iff_iff]; exact hq
  rw [e]
  rcases h9 with rfl | rfl | rfl | rfl | rfl | rfl | rfl | rfl | rfl <;> rfl
end Go.Proofs.YtfkdailfcmnjlaaGreatDoor

namespace Go.Proofs.YtfkdailfcmnjlaaGreatDoor
open Go Go.RowKit
set_option maxRecDepth 100000
attribute [local go_sem ↓] Go.wp_at_zero Go.wp_at_succ

def upd {α : Type} (f : Nat → α) (j : Nat) (x : α) : Nat → α := fun i => if i = j then x else f i
theorem upd_same {α : Type} (f : Nat → α) (j : Nat) (x : α) : upd f j x j = x := by unfold upd; rw [if_pos rfl]
theorem upd_other {α : Type} (f : Nat → α) {i j : Nat} (h : i ≠ j) (x : α) : upd f j x i = f i := by unfold upd; rw [if_neg h]
/-- Three rows of what was made (numbers, members, truths). -/
structure TI (b : Nat) (w : World) (p : Nat) (v : Nat → Value) (l : Nat → List Mk) : Prop where
  blk : w.heap[p]? = some (.cells #[v 0, v 1, v 2] 100 (0, 0))
  row : ∀ j, j < 3 → MR b w (v j) (l j)
  ne : ∀ i j, i < 3 → j < 3 → i ≠ j → ∀ g, (v i).ownBlock = some g → (v j).ownBlock ≠ some g
  pb : b ≤ p
theorem TI.below {b : Nat} {w w' : World} {p : Nat} {v : Nat → Value} {l : Nat → List Mk} (h : TI b w p v l) (hb : Below w.heap.size w w') : TI b w' p v l :=
  ⟨(hb.block _ (lt_of_get h.blk)).trans h.blk, fun j hj => ownsRow_below (h.row j hj) hb, h.ne, h.pb⟩
theorem TI.cell {b : Nat} {w : World} {p : Nat} {v : Nat → Value} {l : Nat → List Mk} (h : TI b w p v l) : w.cell? ⟨p, 0, none⟩ = some (v 0) ∧ w.cell? ⟨p, 1, none⟩ = some (v 1) ∧ w.cell? ⟨p, 2, none⟩ = some (v 2) ∧ ∀ o, w.frozen? ⟨p, o, none⟩ = false :=
  ⟨cell_of_row w p 0 _ _ _ h.blk, cell_of_row w p 1 _ _ _ h.blk, cell_of_row w p 2 _ _ _ h.blk, fun o => by simp [World.frozen?, h.blk]⟩
/-- A row is one more longer. -/
theorem TI.put {b : Nat} {w3 w4 : World} {p : Nat} {v : Nat → Value} {l : Nat → List Mk} (h : TI b w3 p v l) {j : Nat} (hj : j < 3) {o' : Obj} {gg cap : Nat} {m : Mk} (hgrow : (w3.alloc o').grownBy w4 (v j).ownBlock) (hat : (v j).ownBlock = some gg ∨ gg = w3.heap.size + 1)
    (hown : w4.ownsRow b 104 4 (.slice (some ⟨gg, 0, none⟩) ((l j).length + 1) cap) ((l j).length + 1) ((l j).flatMap mkC ++ mkC m)) :
    TI b (w4.setCell ⟨p, j, none⟩ (.slice (some ⟨gg, 0, none⟩) ((l j).length + 1) cap)) p (upd v j (.slice (some ⟨gg, 0, none⟩) ((l j).length + 1) cap)) (upd l j (l j ++ [m])) := by
  have hk : ∀ k o, w3.heap[k]? = some o → some k ≠ (v j).ownBlock → w4.heap[k]? = some o := fun k o ho hn => ((hgrow.block _ (by rw [World.size_alloc]; have := lt_of_get ho; omega) hn).trans (Below.heap_alloc w3 o' _ (lt_of_get ho))).trans ho
  have hp4 : w4.heap[p]? = some (.cells #[v 0, v 1, v 2] 100 (0, 0)) := hk _ _ h.blk (row_ne (h.row j hj) h.blk (by decide))
  have hrow4 : ∀ i, i < 3 → i ≠ j → MR b w4 (v i) (l i) := fun i hi hne => ownsRow_of_block (h.row i hi) (fun k hk' => by
    obtain ⟨cs, hc⟩ := ownsRow_type (h.row i hi) hk'
    exact ((hgrow.block _ (by rw [World.size_alloc]; have := lt_of_get hc; omega) (fun e => h.ne i j hi hj hne k hk' e.symm)).trans (Below.heap_alloc w3 o' _ (lt_of_get hc))))
  generalize hV : Value.slice (some ⟨gg, 0, none⟩) ((l j).length + 1) cap = V at *
  have hVo : V.ownBlock = some gg := by rw [← hV]; rfl
  refine ⟨?_, fun i hi => ?_, fun i i' hi hi' hne g hg => ?_, h.pb⟩
  · rw [heap_setCell_same w4 _ j _ _ _ hp4]
    have e3 : j = 0 ∨ j = 1 ∨ j = 2 := by omega
    rcases e3 with rfl | rfl | rfl <;> rfl
  · by_cases e : i = j
    · subst e
      rw [upd_same, upd_same]
      have := ownsRow_setCell_other hown (a := ⟨p, i, none⟩) (fun e' => row_ne hown hp4 (by decide) e'.symm) V
      unfold MR
      rw [List.length_append, List.flatMap_append]
      simpa using this
    · rw [upd_other _ e, upd_other _ e]
      have hr := hrow4 i hi e
      exact ownsRow_setCell_other hr (a := ⟨p, j, none⟩) (fun e' => row_ne hr hp4 (by decide) e'.symm) V
  · have hnew : ∀ q, q < 3 → (v q).ownBlock ≠ some (w3.heap.size + 1) := fun q hq e' => by
      obtain ⟨cs, hc⟩ := ownsRow_type (h.row q hq) e'
      have := lt_of_get hc
      omega
    by_cases e : i = j
    · subst e
      rw [upd_same] at hg
      rw [upd_other _ (Ne.symm hne)]
      rw [hVo] at hg
      simp at hg
      subst hg
      rcases hat with hat | hat
      · exact h.ne i i' hi hi' hne _ hat
      · rw [hat]; exact hnew i' hi'
    · rw [upd_other _ e] at hg
      by_cases e2 : i' = j
      · subst e2
        rw [upd_same, hVo]
        intro e3
        simp at e3
        subst e3
        rcases hat with hat | hat
        · exact h.ne i i' hi hi' hne _ hg hat
        · rw [hat] at hg; exact hnew i hi hg
      · rw [upd_other _ e2]; exact h.ne i i' hi hi' hne g hg
theorem TI.far {b : Nat} {w3 w4 : World} {p : Nat} {v : Nat → Value} {l : Nat → List Mk} (h : TI b w3 p v l) {j : Nat} (hj : j < 3) {o' : Obj} (hgrow : (w3.alloc o').grownBy w4 (v j).ownBlock) : w4.cell? ⟨p, 0, none⟩ = some (v 0) ∧ w4.cell? ⟨p, 1, none⟩ = some (v 1) ∧ w4.cell? ⟨p, 2, none⟩ = some (v 2) ∧ ∀ o, w4.frozen? ⟨p, o, none⟩ = false := by
  have hp4 : w4.heap[p]? = some (.cells #[v 0, v 1, v 2] 100 (0, 0)) := ((hgrow.block _ (by rw [World.size_alloc]; have := lt_of_get h.blk; omega) (row_ne (h.row j hj) h.blk (by decide))).trans (Below.heap_alloc w3 o' _ (lt_of_get h.blk))).trans h.blk
  exact ⟨cell_of_row w4 p 0 _ _ _ hp4, cell_of_row w4 p 1 _ _ _ hp4, cell_of_row w4 p 2 _ _ _ hp4, fun o => by simp [World.frozen?, hp4]⟩
/-- What is below stays. -/
theorem TI.keep {b : Nat} {w3 w4 : World} {p : Nat} {v : Nat → Value} {l : Nat → List Mk} (h : TI b w3 p v l) {j : Nat} (hj : j < 3) {o' : Obj} (hb : b ≤ w3.heap.size) (hgrow : (w3.alloc o').grownBy w4 (v j).ownBlock) (V : Value) : Below b w3 (w4.setCell ⟨p, j, none⟩ V) := by
  have hb3 : Below b w3 (w3.alloc o') := (Below.refl _ _).alloc hb _
  exact (Below.grown hb3 hgrow (by rw [World.size_alloc]; omega) (fun k hk => ((h.row j hj).lt k hk).1)).setCell h.pb _
theorem info_made : (Tryz.prog.info? 104).map (fun i => (i.zero, i.size, i.bytes)) = some (some (.agg #[.string ⟨#[]⟩, .string ⟨#[]⟩, .int .i64 0, .int .i64 0]), 4, 48) := by kernel_rfl
end Go.Proofs.YtfkdailfcmnjlaaGreatDoor

namespace Go.Proofs.YtfkdailfcmnjlaaGreatDoor
open Go Go.RowKit
set_option maxRecDepth 100000
attribute [local go_sem ↓] Go.wp_at_zero Go.wp_at_succ

def tyJ (j : Nat) : UInt8 := if j = 0 then 110 else if j = 1 then 109 else 116
/-- All that was made is well. -/
def GoodL (fl : List Int) (l : Nat → List Mk) : Prop := ∀ j, j < 3 → ∀ m ∈ l j, MkOK fl (tyJ j) m
theorem GoodL.put {fl : List Int} {l : Nat → List Mk} (h : GoodL fl l) {j : Nat} {m : Mk} (hm : MkOK fl (tyJ j) m) : GoodL fl (upd l j (l j ++ [m])) := fun i hi q hq => by
  by_cases e : i = j
  · subst e
    rw [upd_same] at hq
    rcases List.mem_append.1 hq with hq | hq
    · exact h i hi q hq
    · simp at hq; subst hq; exact hm
  · rw [upd_other _ e] at hq; exact h i hi q hq
/-- What an append to a row wants and gives; w: the world at the call, w1: the one at hand. -/
structure AP (b : Nat) (w w1 : World) (p : Nat) (v : Nat → Value) (l : Nat → List Mk) (j : Nat) (va : Option Addr) (vc : Nat) : Prop where
  cell : w1.cell? ⟨p, j, none⟩ = some (.slice va (l j).length vc)
  row : w1.ownsRow b 104 4 (.slice va (l j).length vc) (l j).length ((l j).flatMap mkC)
  far : ∀ O w5, (w1.alloc O).grownBy w5 (Value.slice va (l j).length vc).ownBlock → w5.cell? ⟨p, j, none⟩ = some (.slice va (l j).length vc) ∧ w5.frozen? ⟨p, j, none⟩ = false
  put : ∀ O (m : Mk) gg cap' w5, (w1.alloc O).grownBy w5 (Value.slice va (l j).length vc).ownBlock → ((Value.slice va (l j).length vc).ownBlock = some gg ∨ gg = (w1.alloc O).heap.size) → w5.ownsRow b 104 4 (.slice (some ⟨gg, 0, none⟩) ((l j).length + 1) cap') ((l j).length + 1) ((l j).flatMap mkC ++ [S m.text, S m.bare, .int .i64 m.told, .int .i64 (m.deep : Nat)]) →
    (∃ v', TI b (w5.setCell ⟨p, j, none⟩ (.slice (some ⟨gg, 0, none⟩) ((l j).length + 1) cap')) p v' (upd l j (l j ++ [m]))) ∧ Below b w (w5.setCell ⟨p, j, none⟩ (.slice (some ⟨gg, 0, none⟩) ((l j).length + 1) cap'))
theorem TI.ready {b : Nat} {w w1 : World} {p : Nat} {v : Nat → Value} {l : Nat → List Mk} (h : TI b w p v l) (hb : b ≤ w.heap.size) (hB : Below w.heap.size w w1) {j : Nat} (hj : j < 3) : ∃ va vc, AP b w w1 p v l j va vc := by
  have h1 := h.below hB
  have hs := hB.size
  obtain ⟨va, vc, hv⟩ := row_sl (h1.row j hj)
  have e3 : j = 0 ∨ j = 1 ∨ j = 2 := by omega
  refine ⟨va, vc, ?_, ?_, fun O w5 hg => ?_, fun O m gg cap' w5 hg ha ho => ?_⟩
  · obtain ⟨c0, c1, c2, _⟩ := h1.cell
    rcases e3 with rfl | rfl | rfl
    · rw [c0, hv]
    · rw [c1, hv]
    · rw [c2, hv]
  · have := h1.row j hj
    unfold MR at this
    rw [hv] at this; exact this
  · obtain ⟨c0, c1, c2, c3⟩ := h1.far hj (w4 := w5) (by rw [hv]; exact hg)
    refine ⟨?_, c3 _⟩
    rcases e3 with rfl | rfl | rfl
    · rw [c0, hv]
    · rw [c1, hv]
    · rw [c2, hv]
  · have hg' : (w1.alloc O).grownBy w5 (v j).ownBlock := by rw [hv]; exact hg
    refine ⟨⟨_, h1.put hj hg' (by rw [hv]; rw [World.size_alloc] at ha; exact ha) ho⟩, ?_⟩
    exact (hB.mono hb).trans (h1.keep hj (by omega) hg' _)
set_option maxHeartbeats 4000000 in
theorem one_num {b p : Nat} {w : World} {v : Nat → Value} {l : Nat → List Mk} {c : Scn} {n : Int} (hn : In64 n) (hT : TI b w p v l) (hb : b ≤ w.heap.size) (hl : (l 0).length ≤ 1000) :
    Calls Tryz.prog 37 #[.pointer (some ⟨p, 0, none⟩), .agg (scC c), .int .i64 0, .int .i64 n] w fun e w' => e = .returned (.tuple #[]) ∧ ∃ (k : Nat) (v' : Nat → Value), k ≤ 9223372036854775807 ∧ TI b w' p v' (upd l 0 (l 0 ++ [⟨tensL k, 48 :: tensL k, k, 1⟩])) ∧ Below b w w' := by
  have W1 := fun w => pickN_any hn (n := 1099511627776) (by decide) (by decide) w
  have W2 := fun w => pickN_any hn (n := 7) (by decide) (by decide) w
  have p1 := pickN_lt n (n := 1099511627776) (by decide)
  have p2 := pickN_lt n (n := 7) (by decide)
  have hten : (10 : Nat) ^ 20 = 100000000000000000000 := by decide
  have WD : ∀ (k : Nat) (w : World), k ≤ 9223372036854775807 → Calls Tryz.prog 70 #[.int .i64 k] w fun e w' => e = .returned (S (tensL k)) ∧ Below w.heap.size w w' := fun k w hk => digits_any 20 k w (by omega) hk (by decide) (by decide)
  clear hten
  generalize pickN n 1099511627776 = k1 at *
  generalize pickN n 7 = k2 at *
  unfold scC
  by_cases h6 : k2 = 6
  · have W3 : ∀ w : World, Calls Tryz.prog 70 #[.int .i64 9223372036854775807] w fun e w' => e = .returned (S (tensL 9223372036854775807)) ∧ Below w.heap.size w w' := fun w => WD 9223372036854775807 w (Nat.le_refl _)
    subst h6
    go_enter Tryz.func37, Tryz.ntmps37
    go_wp2_with (first
      | (go_at_call_of 36 (Value.int IntKind.i64 7); refine (W2 _).mono ?_; rintro e w' ⟨rfl, rfl⟩)
      | (go_at_call 36; refine (W1 _).mono ?_; rintro e w' ⟨rfl, rfl⟩))
    refine (W3 _).mono ?_
    rintro e w1 ⟨rfl, hb1⟩
    have hB1 : Below w.heap.size w w1 := ((Below.refl _ _).alloc (Nat.le_refl _) _).trans (hb1.mono (by simp))
    have hs : (tensL 9223372036854775807).length ≤ 20 := tensF_len 20 _
    have hwb : b ≤ w1.heap.size := by have := hB1.size; omega
    obtain ⟨va, vc, hA⟩ := hT.ready hb hB1 (j := 0) (by decide)
    have t0 := hA.cell
    have HA : Hid _ := hA
    generalize hsd : tensL 9223372036854775807 = sd at *
    have HSD : Hid _ := hsd
    clear hsd hA hT hB1 hb1
    obtain ⟨i0, hi, hz⟩ := Option.map_eq_some_iff.1 info_made
    simp only [Prod.mk.injEq] at hz
    obtain ⟨hz0, hz1, hz2⟩ := hz
    have ls1 : ¬ 9223372036854775807 < 1 + sd.length := by omega
    have eS : (⟨#[48]⟩ : ByteArray) ++ ⟨sd.toArray⟩ = ⟨(48 :: sd).toArray⟩ := ByteArray.ext (by simp)
    go_wp2_with (at_builtin; go_must (refine wpList_append_lies _ (by rfl) _ _ 98 (by rfl) b 104 i0 _ 4 48 Tryz.underlying98 hi hz0 hz1 hz2 (by rfl) (by decide) _ _ _ (by rfl) (World.ownsRow.alloc HA.out.row _) ⟨w1.heap.size, 0, none⟩ 1 1 [S sd, S (48 :: sd), .int .i64 9223372036854775807, .int .i64 1] (by rfl) (by rfl) (World.news_of_block (heap_alloc_new w1 _)) (fun x hx => by simp at hx; rcases hx with rfl | rfl | rfl | rfl <;> rfl) (by decide) (by unfold maxLen; omega) (by omega) (by simp; omega) _ rfl ?_); intro gg cap' w5 hown3 hgrow hat hlt3; obtain ⟨y0, yf0⟩ := HA.out.far _ _ hgrow; have HN : Hid _ := HA.out.put _ ⟨sd, 48 :: sd, 9223372036854775807, 1⟩ _ _ _ hgrow hat hown3; clear hown3 hgrow hat)
    go_end0
    obtain ⟨⟨v', h1⟩, h2⟩ := HN.out
    refine ⟨rfl, 9223372036854775807, v', by omega, ?_, h2⟩
    rw [HSD.out]
    exact h1
  · have W3 : ∀ w : World, Calls Tryz.prog 70 #[.int .i64 k1] w fun e w' => e = .returned (S (tensL k1)) ∧ Below w.heap.size w w' := fun w => WD k1 w (by omega)
    have h6b : ((k2 : Int) == 6) = false := by simp; omega
    have hkw : IntKind.i64.wrap (k1 : Int) = (k1 : Int) := by rw [IntKind.wrap_i64]; omega
    go_enter Tryz.func37, Tryz.ntmps37
    go_wp2_with (first
      | (go_at_call_of 36 (Value.int IntKind.i64 7); refine (W2 _).mono ?_; rintro e w' ⟨rfl, rfl⟩)
      | (go_at_call 36; refine (W1 _).mono ?_; rintro e w' ⟨rfl, rfl⟩))
    refine (W3 _).mono ?_
    rintro e w1 ⟨rfl, hb1⟩
    have hB1 : Below w.heap.size w w1 := ((Below.refl _ _).alloc (Nat.le_refl _) _).trans (hb1.mono (by simp))
    have hs : (tensL k1).length ≤ 20 := tensF_len 20 _
    have hwb : b ≤ w1.heap.size := by have := hB1.size; omega
    obtain ⟨va, vc, hA⟩ := hT.ready hb hB1 (j := 0) (by decide)
    have t0 := hA.cell
    have HA : Hid _ := hA
    generalize hsd : tensL k1 = sd at *
    have HSD : Hid _ := hsd
    clear hsd hA hT hB1 hb1
    obtain ⟨i0, hi, hz⟩ := Option.map_eq_some_iff.1 info_made
    simp only [Prod.mk.injEq] at hz
    obtain ⟨hz0, hz1, hz2⟩ := hz
    have ls1 : ¬ 9223372036854775807 < 1 + sd.length := by omega
    have eS : (⟨#[48]⟩ : ByteArray) ++ ⟨sd.toArray⟩ = ⟨(48 :: sd).toArray⟩ := ByteArray.ext (by simp)
    go_wp2_with (at_builtin; go_must (refine wpList_append_lies _ (by rfl) _ _ 98 (by rfl) b 104 i0 _ 4 48 Tryz.underlying98 hi hz0 hz1 hz2 (by rfl) (by decide) _ _ _ (by rfl) (World.ownsRow.alloc HA.out.row _) ⟨w1.heap.size, 0, none⟩ 1 1 [S sd, S (48 :: sd), .int .i64 (k1 : Nat), .int .i64 1] (by rfl) (by rfl) (World.news_of_block (heap_alloc_new w1 _)) (fun x hx => by simp at hx; rcases hx with rfl | rfl | rfl | rfl <;> rfl) (by decide) (by unfold maxLen; omega) (by omega) (by simp; omega) _ rfl ?_); intro gg cap' w5 hown3 hgrow hat hlt3; obtain ⟨y0, yf0⟩ := HA.out.far _ _ hgrow; have HN : Hid _ := HA.out.put _ ⟨sd, 48 :: sd, (k1 : Nat), 1⟩ _ _ _ hgrow hat hown3; clear hown3 hgrow hat)
    go_end0
    obtain ⟨⟨v', h1⟩, h2⟩ := HN.out
    refine ⟨rfl, k1, v', by omega, ?_, h2⟩
    rw [HSD.out]
    exact h1
end Go.Proofs.YtfkdailfcmnjlaaGreatDoor

namespace Go.Proofs.YtfkdailfcmnjlaaGreatDoor
open Go Go.RowKit
set_option maxRecDepth 100000
attribute [local go_sem ↓] Go.wp_at_zero Go.wp_at_succ

set_option maxHeartbeats 4000000 in
theorem one_mem {b p : Nat} {w : World} {v : Nat → Value} {l : Nat → List Mk} {c : Scn} {n : Int} (hn : In64 n) (hT : TI b w p v l) (hb : b ≤ w.heap.size) (hl : (l 1).length ≤ 1000) :
    Calls Tryz.prog 37 #[.pointer (some ⟨p, 0, none⟩), .agg (scC c), .int .i64 1, .int .i64 n] w fun e w' => e = .returned (.tuple #[]) ∧ ∃ (k : Nat) (v' : Nat → Value), k < 5 ∧ TI b w' p v' (upd l 1 (l 1 ++ [⟨kMembers.getD k [], kMembers.getD k [], k, 1⟩])) ∧ Below b w w' := by
  have W1 := fun w => pickN_any hn (n := 5) (by decide) (by decide) w
  have p1 := pickN_lt n (n := 5) (by decide)
  generalize pickN n 5 = k at *
  unfold scC
  obtain ⟨i0, hi, hz⟩ := Option.map_eq_some_iff.1 info_made
  simp only [Prod.mk.injEq] at hz
  obtain ⟨hz0, hz1, hz2⟩ := hz
  have hk : k = 0 ∨ k = 1 ∨ k = 2 ∨ k = 3 ∨ k = 4 := by omega
  rcases hk with rfl | rfl | rfl | rfl | rfl
  · go_enter Tryz.func37, Tryz.ntmps37
    go_upto_region 19 with (first
      | (go_at_call 36; refine (W1 _).mono ?_; rintro e w' ⟨rfl, rfl⟩))
    go_name_world w1 hw1
    have hB1 : Below w.heap.size w w1 := by rw [← hw1]; exact ((Below.refl _ _).alloc (Nat.le_refl _) _).alloc (by simp) _
    have hwb : b ≤ w1.heap.size := by have := hB1.size; omega
    obtain ⟨va, vc, hA⟩ := hT.ready hb hB1 (j := 1) (by decide)
    have t0 := hA.cell
    have HA : Hid _ := hA
    clear hA hT hB1 hw1
    go_wp2_with (at_builtin; go_must (refine wpList_append_lies _ (by rfl) _ _ 98 (by rfl) b 104 i0 _ 4 48 Tryz.underlying98 hi hz0 hz1 hz2 (by rfl) (by decide) _ _ _ (by rfl) (World.ownsRow.alloc HA.out.row _) ⟨w1.heap.size, 0, none⟩ 1 1 [S [110, 111, 110, 101], S [110, 111, 110, 101], .int .i64 0, .int .i64 1] (by rfl) (by rfl) (World.news_of_block (heap_alloc_new w1 _)) (fun x hx => by simp at hx; rcases hx with rfl | rfl | rfl | rfl <;> rfl) (by decide) (by unfold maxLen; omega) (by omega) (by simp; omega) _ rfl ?_); intro gg cap' w5 hown3 hgrow hat hlt3; obtain ⟨y0, yf0⟩ := HA.out.far _ _ hgrow; have HN : Hid _ := HA.out.put _ ⟨[110, 111, 110, 101], [110, 111, 110, 101], 0, 1⟩ _ _ _ hgrow hat hown3; clear hown3 hgrow hat)
    go_end0
    obtain ⟨⟨v', h1⟩, h2⟩ := HN.out
    exact ⟨rfl, 0, v', by omega, h1, h2⟩
  · go_enter Tryz.func37, Tryz.ntmps37
    go_upto_region 19 with (first
      | (go_at_call 36; refine (W1 _).mono ?_; rintro e w' ⟨rfl, rfl⟩))
    go_name_world w1 hw1
    have hB1 : Below w.heap.size w w1 := by rw [← hw1]; exact ((Below.refl _ _).alloc (Nat.le_refl _) _).alloc (by simp) _
    have hwb : b ≤ w1.heap.size := by have := hB1.size; omega
    obtain ⟨va, vc, hA⟩ := hT.ready hb hB1 (j := 1) (by decide)
    have t0 := hA.cell
    have HA : Hid _ := hA
    clear hA hT hB1 hw1
    go_wp2_with (at_builtin; go_must (refine wpList_append_lies _ (by rfl) _ _ 98 (by rfl) b 104 i0 _ 4 48 Tryz.underlying98 hi hz0 hz1 hz2 (by rfl) (by decide) _ _ _ (by rfl) (World.ownsRow.alloc HA.out.row _) ⟨w1.heap.size, 0, none⟩ 1 1 [S [105, 110, 118, 105, 116, 101], S [105, 110, 118, 105, 116, 101], .int .i64 1, .int .i64 1] (by rfl) (by rfl) (World.news_of_block (heap_alloc_new w1 _)) (fun x hx => by simp at hx; rcases hx with rfl | rfl | rfl | rfl <;> rfl) (by decide) (by unfold maxLen; omega) (by omega) (by simp; omega) _ rfl ?_); intro gg cap' w5 hown3 hgrow hat hlt3; obtain ⟨y0, yf0⟩ := HA.out.far _ _ hgrow; have HN : Hid _ := HA.out.put _ ⟨[105, 110, 118, 105, 116, 101], [105, 110, 118, 105, 116, 101], 1, 1⟩ _ _ _ hgrow hat hown3; clear hown3 hgrow hat)
    go_end0
    obtain ⟨⟨v', h1⟩, h2⟩ := HN.out
    exact ⟨rfl, 1, v', by omega, h1, h2⟩
  · go_enter Tryz.func37, Tryz.ntmps37
    go_upto_region 19 with (first
      | (go_at_call 36; refine (W1 _).mono ?_; rintro e w' ⟨rfl, rfl⟩))
    go_name_world w1 hw1
    have hB1 : Below w.heap.size w w1 := by rw [← hw1]; exact ((Below.refl _ _).alloc (Nat.le_refl _) _).alloc (by simp) _
    have hwb : b ≤ w1.heap.size := by have := hB1.size; omega
    obtain ⟨va, vc, hA⟩ := hT.ready hb hB1 (j := 1) (by decide)
    have t0 := hA.cell
    have HA : Hid _ := hA
    clear hA hT hB1 hw1
    go_wp2_with (at_builtin; go_must (refine wpList_append_lies _ (by rfl) _ _ 98 (by rfl) b 104 i0 _ 4 48 Tryz.underlying98 hi hz0 hz1 hz2 (by rfl) (by decide) _ _ _ (by rfl) (World.ownsRow.alloc HA.out.row _) ⟨w1.heap.size, 0, none⟩ 1 1 [S [106, 111, 105, 110], S [106, 111, 105, 110], .int .i64 2, .int .i64 1] (by rfl) (by rfl) (World.news_of_block (heap_alloc_new w1 _)) (fun x hx => by simp at hx; rcases hx with rfl | rfl | rfl | rfl <;> rfl) (by decide) (by unfold maxLen; omega) (by omega) (by simp; omega) _ rfl ?_); intro gg cap' w5 hown3 hgrow hat hlt3; obtain ⟨y0, yf0⟩ := HA.out.far _ _ hgrow; have HN : Hid _ := HA.out.put _ ⟨[106, 111, 105, 110], [106, 111, 105, 110], 2, 1⟩ _ _ _ hgrow hat hown3; clear hown3 hgrow hat)
    go_end0
    obtain ⟨⟨v', h1⟩, h2⟩ := HN.out
    exact ⟨rfl, 2, v', by omega, h1, h2⟩
  · go_enter Tryz.func37, Tryz.ntmps37
    go_upto_region 19 with (first
      | (go_at_call 36; refine (W1 _).mono ?_; rintro e w' ⟨rfl, rfl⟩))
    go_name_world w1 hw1
    have hB1 : Below w.heap.size w w1 := by rw [← hw1]; exact ((Below.refl _ _).alloc (Nat.le_refl _) _).alloc (by simp) _
    have hwb : b ≤ w1.heap.size := by have := hB1.size; omega
    obtain ⟨va, vc, hA⟩ := hT.ready hb hB1 (j := 1) (by decide)
    have t0 := hA.cell
    have HA : Hid _ := hA
    clear hA hT hB1 hw1
    go_wp2_with (at_builtin; go_must (refine wpList_append_lies _ (by rfl) _ _ 98 (by rfl) b 104 i0 _ 4 48 Tryz.underlying98 hi hz0 hz1 hz2 (by rfl) (by decide) _ _ _ (by rfl) (World.ownsRow.alloc HA.out.row _) ⟨w1.heap.size, 0, none⟩ 1 1 [S [108, 101, 97, 118, 101], S [108, 101, 97, 118, 101], .int .i64 3, .int .i64 1] (by rfl) (by rfl) (World.news_of_block (heap_alloc_new w1 _)) (fun x hx => by simp at hx; rcases hx with rfl | rfl | rfl | rfl <;> rfl) (by decide) (by unfold maxLen; omega) (by omega) (by simp; omega) _ rfl ?_); intro gg cap' w5 hown3 hgrow hat hlt3; obtain ⟨y0, yf0⟩ := HA.out.far _ _ hgrow; have HN : Hid _ := HA.out.put _ ⟨[108, 101, 97, 118, 101], [108, 101, 97, 118, 101], 3, 1⟩ _ _ _ hgrow hat hown3; clear hown3 hgrow hat)
    go_end0
    obtain ⟨⟨v', h1⟩, h2⟩ := HN.out
    exact ⟨rfl, 3, v', by omega, h1, h2⟩
  · go_enter Tryz.func37, Tryz.ntmps37
    go_upto_region 19 with (first
      | (go_at_call 36; refine (W1 _).mono ?_; rintro e w' ⟨rfl, rfl⟩))
    go_name_world w1 hw1
    have hB1 : Below w.heap.size w w1 := by rw [← hw1]; exact ((Below.refl _ _).alloc (Nat.le_refl _) _).alloc (by simp) _
    have hwb : b ≤ w1.heap.size := by have := hB1.size; omega
    obtain ⟨va, vc, hA⟩ := hT.ready hb hB1 (j := 1) (by decide)
    have t0 := hA.cell
    have HA : Hid _ := hA
    clear hA hT hB1 hw1
    go_wp2_with (at_builtin; go_must (refine wpList_append_lies _ (by rfl) _ _ 98 (by rfl) b 104 i0 _ 4 48 Tryz.underlying98 hi hz0 hz1 hz2 (by rfl) (by decide) _ _ _ (by rfl) (World.ownsRow.alloc HA.out.row _) ⟨w1.heap.size, 0, none⟩ 1 1 [S [98, 97, 110], S [98, 97, 110], .int .i64 4, .int .i64 1] (by rfl) (by rfl) (World.news_of_block (heap_alloc_new w1 _)) (fun x hx => by simp at hx; rcases hx with rfl | rfl | rfl | rfl <;> rfl) (by decide) (by unfold maxLen; omega) (by omega) (by simp; omega) _ rfl ?_); intro gg cap' w5 hown3 hgrow hat hlt3; obtain ⟨y0, yf0⟩ := HA.out.far _ _ hgrow; have HN : Hid _ := HA.out.put _ ⟨[98, 97, 110], [98, 97, 110], 4, 1⟩ _ _ _ hgrow hat hown3; clear hown3 hgrow hat)
    go_end0
    obtain ⟨⟨v', h1⟩, h2⟩ := HN.out
    exact ⟨rfl, 4, v', by omega, h1, h2⟩
end Go.Proofs.YtfkdailfcmnjlaaGreatDoor
