/-
  The scene's event. The scene's state. What a scene tells of a user. What is made lies in memory; the last ones; two, three put together.
-/
import Derived.Test.YtfkdailfcmnjlaaGreatDoorTells01
import Derived.Test.YtfkdailfcmnjlaaGreatDoorTells02
import Derived.Test.YtfkdailfcmnjlaaGreatDoorTells03
import Derived.Test.YtfkdailfcmnjlaaGreatDoorTells04
import Derived.Test.YtfkdailfcmnjlaaGreatDoorTells05
import Derived.Test.YtfkdailfcmnjlaaGreatDoorTells06
import Derived.Test.YtfkdailfcmnjlaaGreatDoorTells07
import Derived.Test.YtfkdailfcmnjlaaGreatDoorTells08
import Derived.Test.YtfkdailfcmnjlaaGreatDoorTells09
import Derived.Test.YtfkdailfcmnjlaaGreatDoorTells10
import Derived.Test.YtfkdailfcmnjlaaGreatDoorTells11
import Derived.Test.YtfkdailfcmnjlaaGreatDoorTells12
import Derived.Test.YtfkdailfcmnjlaaGreatDoorTells13
import Derived.Test.YtfkdailfcmnjlaaGreatDoorTells14
import Derived.Test.YtfkdailfcmnjlaaGreatDoorTells15
import Derived.Test.YtfkdailfcmnjlaaGreatDoorTells16
import Derived.Test.YtfkdailfcmnjlaaGreatDoorTells17
import Derived.Test.YtfkdailfcmnjlaaGreatDoorTells18
import Derived.Test.YtfkdailfcmnjlaaGreatDoorTells19
import Derived.Test.YtfkdailfcmnjlaaGreatDoorTells20
import Derived.Test.YtfkdailfcmnjlaaGreatDoorTells21
import Derived.Test.YtfkdailfcmnjlaaGreatDoorTells22
import Derived.Test.YtfkdailfcmnjlaaGreatDoorTells23
import Derived.Test.YtfkdailfcmnjlaaGreatDoorTells24
import Derived.Test.YtfkdailfcmnjlaaGreatDoorTells25
import Derived.Test.YtfkdailfcmnjlaaGreatDoorTells26
import Derived.Test.YtfkdailfcmnjlaaGreatDoorTells27
import Derived.Test.YtfkdailfcmnjlaaGreatDoorLays
import Derived.Test.YtfkdailfcmnjlaaGreatDoorLays2
import Derived.WalkKit
import Derived.Deep.QuietTactic
import Derived.BigQuiet
import Derived.WalkSpells
import GoSem.Op.String
import Derived.Deep.AppendLies
import Derived.Deep.RegionHeld3
import Derived.Deep.DrawnRows
import Derived.Deep.RegionHeldLaw
import Derived.Deep.RegionLaw
import Derived.Lib.ParseIntBCases
import Derived.Deep.OwnRows
import Derived.Lib.LaidTab
import Derived.Lib.AppendIntMem
import Derived.Shelf.Strings.Builder1
import Derived.Laws.CopyOwn
import Derived.Deep.DeepCutAuto
import Derived.WalkSmall
import Derived.Lib.AppendZerosOnto
import Derived.Shelf.Abstract
set_option linter.unusedVariables false
set_option linter.unusedSimpArgs false
namespace Go.Proofs.YtfkdailfcmnjlaaGreatDoor
open Go Go.RowKit
set_option maxRecDepth 100000
attribute [local go_sem ↓] Go.wp_at_zero Go.wp_at_succ

/-- Which of three a raw number speaks of. -/
def pick3 (c : Int) : Nat := ((if c < 0 then -(c + 1) else c) % 3).toNat
theorem pick3_lt (c : Int) : pick3 c < 3 := by unfold pick3; omega
set_option maxHeartbeats 2000000 in
theorem pick_any {c : Int} (hc : In64 c) (w : World) : Calls Tryz.prog 36 #[.int .i64 c, .int .i64 3] w fun e w' => e = .returned (.int .i64 (pick3 c : Nat)) ∧ w' = w := by
  have HR : Hid (((pick3 c : Nat) : Int) = (if c < 0 then -(c + 1) else c) % 3) := by show _ = _; unfold pick3; omega
  generalize pick3 c = R at *
  unfold In64 at hc
  obtain ⟨h1, h2⟩ := hc
  by_cases h0 : c < 0
  · have HR2 : Hid ((R : Int) = (-(c + 1)) % 3) := by have := HR.out; rw [if_pos h0] at this; exact this
    have hz : (0 : Int) ≤ -(c + 1) := by omega
    have hw1 : IntKind.i64.wrap (c + 1) = c + 1 := by rw [IntKind.wrap_i64]; omega
    have hw2 : IntKind.i64.wrap (-(c + 1)) = -(c + 1) := by rw [IntKind.wrap_i64]; omega
    have ht : (-(c + 1)).tmod 3 = (-(c + 1)) % 3 := Int.tmod_eq_emod_of_nonneg hz
    clear HR
    go_enter Tryz.func36, Tryz.ntmps36
    go_wp2
    go_ret
    refine ⟨ret_int ?_, rfl⟩
    first | exact HR2.out.symm | (simp [ht, HR2.out]; done) | (have := HR2.out; omega)
  · have HR2 : Hid ((R : Int) = c % 3) := by have := HR.out; rw [if_neg h0] at this; exact this
    have hz : (0 : Int) ≤ c := by omega
    have ht : c.tmod 3 = c % 3 := Int.tmod_eq_emod_of_nonneg hz
    clear HR
    go_enter Tryz.func36, Tryz.ntmps36
    go_wp2
    go_ret
    refine ⟨ret_int ?_, rfl⟩
    first | exact HR2.out.symm | (simp [ht, HR2.out]; done) | (have := HR2.out; omega)
def userL (c : Int) : List UInt8 := [[97], [98], []].getD (pick3 c) []
set_option maxHeartbeats 2000000 in
theorem user_any {c : Int} (hc : In64 c) (w : World) : Calls Tryz.prog 43 #[.int .i64 c] w fun e w' => e = .returned (S (userL c)) ∧ Below w.heap.size w w' := by
  have W1 := fun w => pick_any hc w
  have hlt := pick3_lt c
  unfold userL
  generalize pick3 c = R at *
  clear hc
  have HB : Hid (∀ o, Below w.heap.size w (w.alloc o)) := fun o => (Below.refl _ _).alloc (Nat.le_refl _) _
  have hR : R = 0 ∨ R = 1 ∨ R = 2 := by omega
  rcases hR with rfl | rfl | rfl
  all_goals
    go_enter Tryz.func43, Tryz.ntmps43
    go_wp2_with (
      go_at_call 36
      refine (W1 _).mono ?_
      rintro e w' ⟨rfl, rfl⟩)
  all_goals
    go_ret
    exact ⟨rfl, HB.out _⟩
/-- A scene. -/
structure Scn where
  sn : Int
  tg : Int
  wa : Int
  nd : Int
  wh : Int
  l0 : Int
  l1 : Int
  l2 : Int
  i0 : Int
  i1 : Int
  i2 : Int
  a0 : Bool
  a1 : Bool
  a2 : Bool
  df : Int
  op : Bool
def scC (c : Scn) : Array Value := #[.int .i64 c.sn, .int .i64 c.tg, .int .i64 c.wa, .int .i64 c.nd, .int .i64 c.wh, .int .i64 c.l0, .int .i64 c.l1, .int .i64 c.l2, .int .i64 c.i0, .int .i64 c.i1, .int .i64 c.i2, .bool c.a0, .bool c.a1, .bool c.a2, .int .i64 c.df, .bool c.op]
structure ScnIn (c : Scn) : Prop where
  sn : In64 c.sn
  tg : In64 c.tg
  nd : In64 c.nd
  wh : In64 c.wh
  l0 : In64 c.l0
  l1 : In64 c.l1
  l2 : In64 c.l2
  i0 : In64 c.i0
  i1 : In64 c.i1
  i2 : In64 c.i2
  df : In64 c.df
def scEv (c : Scn) : Ev := ⟨userL c.sn, userL c.tg, c.wa, c.nd, c.wh⟩
set_option maxHeartbeats 4000000 in
theorem event_any {c : Scn} (hc : ScnIn c) (w : World) : Calls Tryz.prog 21 #[.agg (scC c)] w fun e w' => e = .returned (evV (scEv c)) ∧ Below w.heap.size w w' := by
  have W1 := fun w => user_any hc.sn w
  have W2 := fun w => user_any hc.tg w
  unfold evV scEv scC
  simp only []
  generalize userL c.sn = us at *
  generalize userL c.tg = ut at *
  obtain ⟨sn, tg, wa, nd, wh, l0, l1, l2, i0, i1, i2, a0, a1, a2, df, op⟩ := c
  simp only [] at *
  clear hc
  obtain ⟨w2, hw2⟩ : ∃ w2, (w.alloc (.cells #[.int .i64 sn, .int .i64 tg, .int .i64 wa, .int .i64 nd, .int .i64 wh, .int .i64 l0, .int .i64 l1, .int .i64 l2, .int .i64 i0, .int .i64 i1, .int .i64 i2, .bool a0, .bool a1, .bool a2, .int .i64 df, .bool op] 37)).alloc (.cells #[.string ⟨#[]⟩, .string ⟨#[]⟩, .int .i64 0, .int .i64 0, .int .i64 0] 46) = w2 := ⟨_, rfl⟩
  have hb2 : Below w.heap.size w w2 := by rw [← hw2]; exact ((Below.refl _ w).alloc (Nat.le_refl _) _).alloc (by simp) _
  have hk1 : w2.heap[w.heap.size]? = some (.cells #[.int .i64 sn, .int .i64 tg, .int .i64 wa, .int .i64 nd, .int .i64 wh, .int .i64 l0, .int .i64 l1, .int .i64 l2, .int .i64 i0, .int .i64 i1, .int .i64 i2, .bool a0, .bool a1, .bool a2, .int .i64 df, .bool op] 37 (0, 0)) := by rw [← hw2]; exact (Below.heap_alloc _ _ _ (by simp)).trans (heap_alloc_new w _)
  have hk2 : w2.heap[w.heap.size + 1]? = some (.cells #[.string ⟨#[]⟩, .string ⟨#[]⟩, .int .i64 0, .int .i64 0, .int .i64 0] 46 (0, 0)) := by
    rw [← hw2]
    have := heap_alloc_new (w.alloc (.cells #[.int .i64 sn, .int .i64 tg, .int .i64 wa, .int .i64 nd, .int .i64 wh, .int .i64 l0, .int .i64 l1, .int .i64 l2, .int .i64 i0, .int .i64 i1, .int .i64 i2, .bool a0, .bool a1, .bool a2, .int .i64 df, .bool op] 37)) (.cells #[.string ⟨#[]⟩, .string ⟨#[]⟩, .int .i64 0, .int .i64 0, .int .i64 0] 46)
    rw [World.size_alloc] at this; exact this
  have hsz : w2.heap.size = w.heap.size + 1 + 1 := by rw [← hw2, World.size_alloc, World.size_alloc]
  have q1 := fun j => cell_of_row w2 _ j _ _ _ hk1
  have hS0 : Below (w.heap.size + 1) w2 w2 ∧ w2.cell? ⟨w.heap.size, 0, none⟩ = some (.int .i64 sn) ∧ w2.cell? ⟨w.heap.size, 1, none⟩ = some (.int .i64 tg) ∧ w2.cell? ⟨w.heap.size, 2, none⟩ = some (.int .i64 wa) ∧ w2.cell? ⟨w.heap.size, 3, none⟩ = some (.int .i64 nd) ∧ w2.cell? ⟨w.heap.size, 4, none⟩ = some (.int .i64 wh) := ⟨Below.refl _ _, q1 0, q1 1, q1 2, q1 3, q1 4⟩
  have KB : Hid (∀ W W', (Below (w.heap.size + 1) w2 W ∧ W.cell? ⟨w.heap.size, 0, none⟩ = some (.int .i64 sn) ∧ W.cell? ⟨w.heap.size, 1, none⟩ = some (.int .i64 tg) ∧ W.cell? ⟨w.heap.size, 2, none⟩ = some (.int .i64 wa) ∧ W.cell? ⟨w.heap.size, 3, none⟩ = some (.int .i64 nd) ∧ W.cell? ⟨w.heap.size, 4, none⟩ = some (.int .i64 wh)) → Below W.heap.size W W' → (Below (w.heap.size + 1) w2 W' ∧ W'.cell? ⟨w.heap.size, 0, none⟩ = some (.int .i64 sn) ∧ W'.cell? ⟨w.heap.size, 1, none⟩ = some (.int .i64 tg) ∧ W'.cell? ⟨w.heap.size, 2, none⟩ = some (.int .i64 wa) ∧ W'.cell? ⟨w.heap.size, 3, none⟩ = some (.int .i64 nd) ∧ W'.cell? ⟨w.heap.size, 4, none⟩ = some (.int .i64 wh))) := fun W W' hS hb => by
    obtain ⟨s0, s1, s2, s3, s4, s5⟩ := hS
    refine ⟨s0.trans (hb.mono (by have := s0.size; omega)), ?_, ?_, ?_, ?_, ?_⟩ <;> (rw [hb.cell (World.block_lt_of_cell? W _ (by assumption))]; assumption)
  have KD : Hid (∀ W : World, (Below (w.heap.size + 1) w2 W ∧ W.cell? ⟨w.heap.size, 0, none⟩ = some (.int .i64 sn) ∧ W.cell? ⟨w.heap.size, 1, none⟩ = some (.int .i64 tg) ∧ W.cell? ⟨w.heap.size, 2, none⟩ = some (.int .i64 wa) ∧ W.cell? ⟨w.heap.size, 3, none⟩ = some (.int .i64 nd) ∧ W.cell? ⟨w.heap.size, 4, none⟩ = some (.int .i64 wh)) → (Below (w.heap.size + 1) w2 W.drew ∧ W.drew.cell? ⟨w.heap.size, 0, none⟩ = some (.int .i64 sn) ∧ W.drew.cell? ⟨w.heap.size, 1, none⟩ = some (.int .i64 tg) ∧ W.drew.cell? ⟨w.heap.size, 2, none⟩ = some (.int .i64 wa) ∧ W.drew.cell? ⟨w.heap.size, 3, none⟩ = some (.int .i64 nd) ∧ W.drew.cell? ⟨w.heap.size, 4, none⟩ = some (.int .i64 wh))) := fun W hS => ⟨hS.1.drew, hS.2⟩
  have KS : Hid (∀ (W : World) (v0 v1 v2 v3 v4 : Value), (Below (w.heap.size + 1) w2 W ∧ W.cell? ⟨w.heap.size, 0, none⟩ = some (.int .i64 sn) ∧ W.cell? ⟨w.heap.size, 1, none⟩ = some (.int .i64 tg) ∧ W.cell? ⟨w.heap.size, 2, none⟩ = some (.int .i64 wa) ∧ W.cell? ⟨w.heap.size, 3, none⟩ = some (.int .i64 nd) ∧ W.cell? ⟨w.heap.size, 4, none⟩ = some (.int .i64 wh)) → (Below (w.heap.size + 1) w2 (((((W.setCell ⟨w.heap.size + 1, 0, none⟩ v0).setCell ⟨w.heap.size + 1, 1, none⟩ v1).setCell ⟨w.heap.size + 1, 2, none⟩ v2).setCell ⟨w.heap.size + 1, 3, none⟩ v3).setCell ⟨w.heap.size + 1, 4, none⟩ v4) ∧ (((((W.setCell ⟨w.heap.size + 1, 0, none⟩ v0).setCell ⟨w.heap.size + 1, 1, none⟩ v1).setCell ⟨w.heap.size + 1, 2, none⟩ v2).setCell ⟨w.heap.size + 1, 3, none⟩ v3).setCell ⟨w.heap.size + 1, 4, none⟩ v4).cell? ⟨w.heap.size, 0, none⟩ = some (.int .i64 sn) ∧ (((((W.setCell ⟨w.heap.size + 1, 0, none⟩ v0).setCell ⟨w.heap.size + 1, 1, none⟩ v1).setCell ⟨w.heap.size + 1, 2, none⟩ v2).setCell ⟨w.heap.size + 1, 3, none⟩ v3).setCell ⟨w.heap.size + 1, 4, none⟩ v4).cell? ⟨w.heap.size, 1, none⟩ = some (.int .i64 tg) ∧ (((((W.setCell ⟨w.heap.size + 1, 0, none⟩ v0).setCell ⟨w.heap.size + 1, 1, none⟩ v1).setCell ⟨w.heap.size + 1, 2, none⟩ v2).setCell ⟨w.heap.size + 1, 3, none⟩ v3).setCell ⟨w.heap.size + 1, 4, none⟩ v4).cell? ⟨w.heap.size, 2, none⟩ = some (.int .i64 wa) ∧ (((((W.setCell ⟨w.heap.size + 1, 0, none⟩ v0).setCell ⟨w.heap.size + 1, 1, none⟩ v1).setCell ⟨w.heap.size + 1, 2, none⟩ v2).setCell ⟨w.heap.size + 1, 3, none⟩ v3).setCell ⟨w.heap.size + 1, 4, none⟩ v4).cell? ⟨w.heap.size, 3, none⟩ = some (.int .i64 nd) ∧ (((((W.setCell ⟨w.heap.size + 1, 0, none⟩ v0).setCell ⟨w.heap.size + 1, 1, none⟩ v1).setCell ⟨w.heap.size + 1, 2, none⟩ v2).setCell ⟨w.heap.size + 1, 3, none⟩ v3).setCell ⟨w.heap.size + 1, 4, none⟩ v4).cell? ⟨w.heap.size, 4, none⟩ = some (.int .i64 wh))) := fun W v0 v1 v2 v3 v4 hS => by
    obtain ⟨s0, s1, s2, s3, s4, s5⟩ := hS
    refine ⟨((((s0.setCell (by simp) _).setCell (by simp) _).setCell (by simp) _).setCell (by simp) _).setCell (by simp) _, ?_, ?_, ?_, ?_, ?_⟩ <;>
      (rw [World.cell?_setCell_far _ _ _ _ (by simp only []; omega), World.cell?_setCell_far _ _ _ _ (by simp only []; omega), World.cell?_setCell_far _ _ _ _ (by simp only []; omega), World.cell?_setCell_far _ _ _ _ (by simp only []; omega), World.cell?_setCell_far _ _ _ _ (by simp only []; omega)]; assumption)
  have HG : Hid (∀ W, Below (w.heap.size + 1) w2 W → Below w.heap.size w W) := fun W h => hb2.trans (h.mono (by omega))
  have HR : Hid (∀ W, Below w2.heap.size w2 W → (W.cell? ⟨w.heap.size + 1, 0, none⟩ = some (.string ⟨#[]⟩) ∧ W.cell? ⟨w.heap.size + 1, 1, none⟩ = some (.string ⟨#[]⟩) ∧ W.cell? ⟨w.heap.size + 1, 2, none⟩ = some (.int .i64 0) ∧ W.cell? ⟨w.heap.size + 1, 3, none⟩ = some (.int .i64 0) ∧ W.cell? ⟨w.heap.size + 1, 4, none⟩ = some (.int .i64 0)) ∧ ∀ o, W.frozen? ⟨w.heap.size + 1, o, none⟩ = false) := fun W h => by
    have hk : W.heap[w.heap.size + 1]? = _ := (h.block _ (lt_of_get hk2)).trans hk2
    have hcc := fun j => cell_of_row W _ j _ _ _ hk
    exact ⟨⟨hcc 0, hcc 1, hcc 2, hcc 3, hcc 4⟩, fun o => by simp [World.frozen?, hk]⟩
  have HW : Hid _ := hw2
  clear hw2 hb2 hk1 hk2 q1 hsz
  go_enter Tryz.func21, Tryz.ntmps21
  go_wp2_with fail
  rw [HW.out]
  go_region_held3 (fun W => Below (w.heap.size + 1) w2 W ∧ W.cell? ⟨w.heap.size, 0, none⟩ = some (.int .i64 sn) ∧ W.cell? ⟨w.heap.size, 1, none⟩ = some (.int .i64 tg) ∧ W.cell? ⟨w.heap.size, 2, none⟩ = some (.int .i64 wa) ∧ W.cell? ⟨w.heap.size, 3, none⟩ = some (.int .i64 nd) ∧ W.cell? ⟨w.heap.size, 4, none⟩ = some (.int .i64 wh)) (first | with_reducible assumption | with_reducible exact KD.out _ (by assumption) | with_reducible exact KB.out _ _ (by assumption) (by assumption) | with_reducible exact KS.out _ _ _ _ _ _ (by assumption) | go_keep)
    (first
      | (go_at_call_of 43 (Value.int IntKind.i64 sn); refine (W1 _).mono ?_; rintro e w3 ⟨rfl, hb3⟩)
      | (go_at_call_of 43 (Value.int IntKind.i64 tg); refine (W2 _).mono ?_; rintro e w4 ⟨rfl, hb4⟩; obtain ⟨⟨r0, r1, r2, r3, r4⟩, gf⟩ := HR.out _ (Below.trans ⟨hb3.os, hb3.tape, hb3.output, hb3.size, hb3.block⟩ (hb4.mono hb3.size)); have g0 := gf 0; have g1 := gf 1; have g2 := gf 2; have g3 := gf 3; have g4 := gf 4; clear gf))
  rename_i hHeld
  have HBl : Hid _ := HG.out _ hHeld.1
  clear hHeld KB KD KS HR HG hS0 hb3 hb4 W1 W2
  go_wp2
  refine bodyPost_ret (v := .agg #[S us, S ut, .int .i64 wa, .int .i64 nd, .int .i64 wh]) (by simp [results, Tryz.results21, go_sem, cell_set_same, cell_set_off, some_set, r0, r1, r2, r3, r4]) rfl ?_
  exact ⟨rfl, HBl.out⟩
end Go.Proofs.YtfkdailfcmnjlaaGreatDoor

namespace Go.Proofs.YtfkdailfcmnjlaaGreatDoor
open Go Go.RowKit
set_option maxRecDepth 100000
attribute [local go_sem ↓] Go.wp_at_zero Go.wp_at_succ

def lvA (c : Scn) (i : Nat) : Int := if i = 0 then c.l0 else if i = 1 then c.l1 else c.l2
def isA (c : Scn) (i : Nat) : Int := if i = 0 then c.i0 else if i = 1 then c.i1 else c.i2
def abA (c : Scn) (i : Nat) : Bool := if i = 0 then c.a0 else if i = 1 then c.a1 else c.a2
def lvl (c : Scn) : Nat → List (List UInt8 × Int)
  | 0 => []
  | k + 1 => if abA c k then lvl c k else lvl c k ++ [(userL k, lvA c k)]
def mbl (c : Scn) : Nat → List (List UInt8 × Int)
  | 0 => []
  | k + 1 => if abA c k then mbl c k else mbl c k ++ [(userL k, isA c k)]
def lv2 (c : Scn) : Nat → List (List UInt8 × Int)
  | 0 => lvl c 3
  | k + 1 => lv2 c k ++ [(userL (2 * (k : Int)), 77)]
def mb2 (c : Scn) : Nat → List (List UInt8 × Int)
  | 0 => mbl c 3
  | k + 1 => mb2 c k ++ [(userL (2 * (k : Int)), 4)]
def scSt (c : Scn) : Stt := ⟨lv2 c 2, c.df, mb2 c 2, c.op⟩
structure StI (w wr : World) (c : Scn) (lv mv : Value) (ls ms : List (List UInt8 × Int)) : Prop where
  bel : Below w.heap.size w wr
  scn : wr.heap[w.heap.size]? = some (.cells (scC c) 37 (0, 0))
  res : wr.heap[w.heap.size + 1]? = some (.cells #[.slice none 0 0, .int .i64 0, .slice none 0 0, .bool false] 50 (0, 0))
  blk : wr.heap[w.heap.size + 1 + 1]? = some (.cells #[lv, .int .i64 c.df, mv, .bool c.op] 50 (0, 0))
  rl : wr.ownsRow w.heap.size 108 2 lv ls.length (pcells ls)
  rm : wr.ownsRow w.heap.size 110 2 mv ms.length (pcells ms)
theorem StI.at_ {w wr w3 : World} {c : Scn} {lv mv : Value} {ls ms : List (List UInt8 × Int)} (h : StI w wr c lv mv ls ms) (hb : Below wr.heap.size wr w3) : StI w w3 c lv mv ls ms :=
  ⟨h.bel.trans (hb.mono h.bel.size), (hb.block _ (lt_of_get h.scn)).trans h.scn, (hb.block _ (lt_of_get h.res)).trans h.res, (hb.block _ (lt_of_get h.blk)).trans h.blk, ownsRow_below h.rl hb, ownsRow_below h.rm hb⟩
theorem row_ne {w : World} {base e size n k : Nat} {v : Value} {xs : List Value} {cs : Array Value} {ty : TypeId} {z : Nat × Nat} (h : w.ownsRow base e size v n xs) (hc : w.heap[k]? = some (.cells cs ty z)) (hty : ty ≠ e) : some k ≠ v.ownBlock := fun e' => by
  obtain ⟨cs', h'⟩ := ownsRow_type h e'.symm
  rw [hc] at h'; simp at h'; exact hty h'.2.1
theorem pcells_snoc (l : List (List UInt8 × Int)) (x : List UInt8 × Int) : pcells (l ++ [x]) = pcells l ++ [S x.1, .int .i64 x.2] := by simp [pcells]
theorem StI.grown {w w3 w4 : World} {c : Scn} {lv mv : Value} {ls ms : List (List UInt8 × Int)} (h : StI w w3 c lv mv ls ms) {o' : Obj} {v : Value} (hgrow : (w3.alloc o').grownBy w4 v.ownBlock) (h0 : ∀ k, v.ownBlock = some k → w.heap.size ≤ k) (h1 : ∀ k cs ty z, w3.heap[k]? = some (.cells cs ty z) → ty = 37 ∨ ty = 50 → some k ≠ v.ownBlock) :
    Below w.heap.size w w4 ∧ w4.heap[w.heap.size]? = some (.cells (scC c) 37 (0, 0)) ∧ w4.heap[w.heap.size + 1]? = some (.cells #[.slice none 0 0, .int .i64 0, .slice none 0 0, .bool false] 50 (0, 0)) ∧ w4.heap[w.heap.size + 1 + 1]? = some (.cells #[lv, .int .i64 c.df, mv, .bool c.op] 50 (0, 0)) := by
  have hb3 : Below w.heap.size w (w3.alloc o') := h.bel.alloc h.bel.size _
  have hk : ∀ k o, w3.heap[k]? = some o → some k ≠ v.ownBlock → w4.heap[k]? = some o := fun k o ho hn => ((hgrow.block _ (by rw [World.size_alloc]; have := lt_of_get ho; omega) hn).trans (Below.heap_alloc w3 o' _ (lt_of_get ho))).trans ho
  exact ⟨Below.grown hb3 hgrow hb3.size h0, hk _ _ h.scn (h1 _ _ _ _ h.scn (.inl rfl)), hk _ _ h.res (h1 _ _ _ _ h.res (.inr rfl)), hk _ _ h.blk (h1 _ _ _ _ h.blk (.inr rfl))⟩
theorem lv_apart {w : World} {base n : Nat} {v : Value} {xs : List Value} (h : w.ownsRow base 108 2 v n xs) : ∀ k cs ty z, w.heap[k]? = some (.cells cs ty z) → ty = 37 ∨ ty = 50 → some k ≠ v.ownBlock := fun k cs ty z hk ht => row_ne h hk (by rcases ht with rfl | rfl <;> decide)
theorem mb_apart {w : World} {base n : Nat} {v : Value} {xs : List Value} (h : w.ownsRow base 110 2 v n xs) : ∀ k cs ty z, w.heap[k]? = some (.cells cs ty z) → ty = 37 ∨ ty = 50 → some k ≠ v.ownBlock := fun k cs ty z hk ht => row_ne h hk (by rcases ht with rfl | rfl <;> decide)
theorem StI.lvNext {w w3 w4 : World} {c : Scn} {lv mv lv' : Value} {ls ms : List (List UInt8 × Int)} {u : List UInt8} {x : Int} {o' : Obj} (h : StI w w3 c lv mv ls ms) (hgrow : (w3.alloc o').grownBy w4 lv.ownBlock)
    (hown : w4.ownsRow w.heap.size 108 2 lv' (ls.length + 1) (pcells ls ++ [S u, .int .i64 x])) : StI w (w4.setCell ⟨w.heap.size + 1 + 1, 0, none⟩ lv') c lv' mv (ls ++ [(u, x)]) ms := by
  obtain ⟨g1, g2, g3, g4⟩ := h.grown hgrow (fun k hk => (h.rl.lt k hk).1) (lv_apart h.rl)
  have hm4 : w4.ownsRow w.heap.size 110 2 mv ms.length (pcells ms) := ownsRow_of_block h.rm (fun k hk => by
    obtain ⟨cs, hc⟩ := ownsRow_type h.rm hk
    exact ((hgrow.block _ (by rw [World.size_alloc]; have := lt_of_get hc; omega) (row_ne h.rl hc (by decide))).trans (Below.heap_alloc w3 o' _ (lt_of_get hc))))
  refine ⟨g1.setCell (by simp only []; omega) _, ?_, ?_, ?_, ?_, ?_⟩
  · rw [Below.heap_setCell _ _ _ _ (by simp only []; omega)]; exact g2
  · rw [Below.heap_setCell _ _ _ _ (by simp only []; omega)]; exact g3
  · rw [heap_setCell_same w4 _ 0 _ _ _ g4]; rfl
  · rw [List.length_append, pcells_snoc]
    exact ownsRow_setCell_other hown (a := ⟨w.heap.size + 1 + 1, 0, none⟩) (fun e => row_ne hown g4 (by decide) e.symm) _
  · exact ownsRow_setCell_other hm4 (a := ⟨w.heap.size + 1 + 1, 0, none⟩) (fun e => row_ne hm4 g4 (by decide) e.symm) _
theorem StI.mbNext {w w3 w4 : World} {c : Scn} {lv mv mv' : Value} {ls ms : List (List UInt8 × Int)} {u : List UInt8} {x : Int} {o' : Obj} (h : StI w w3 c lv mv ls ms) (hgrow : (w3.alloc o').grownBy w4 mv.ownBlock)
    (hown : w4.ownsRow w.heap.size 110 2 mv' (ms.length + 1) (pcells ms ++ [S u, .int .i64 x])) : StI w (w4.setCell ⟨w.heap.size + 1 + 1, 2, none⟩ mv') c lv mv' ls (ms ++ [(u, x)]) := by
  obtain ⟨g1, g2, g3, g4⟩ := h.grown hgrow (fun k hk => (h.rm.lt k hk).1) (mb_apart h.rm)
  have hm4 : w4.ownsRow w.heap.size 108 2 lv ls.length (pcells ls) := ownsRow_of_block h.rl (fun k hk => by
    obtain ⟨cs, hc⟩ := ownsRow_type h.rl hk
    exact ((hgrow.block _ (by rw [World.size_alloc]; have := lt_of_get hc; omega) (row_ne h.rm hc (by decide))).trans (Below.heap_alloc w3 o' _ (lt_of_get hc))))
  refine ⟨g1.setCell (by simp only []; omega) _, ?_, ?_, ?_, ?_, ?_⟩
  · rw [Below.heap_setCell _ _ _ _ (by simp only []; omega)]; exact g2
  · rw [Below.heap_setCell _ _ _ _ (by simp only []; omega)]; exact g3
  · rw [heap_setCell_same w4 _ 2 _ _ _ g4]; rfl
  · exact ownsRow_setCell_other hm4 (a := ⟨w.heap.size + 1 + 1, 2, none⟩) (fun e => row_ne hm4 g4 (by decide) e.symm) _
  · rw [List.length_append, pcells_snoc]
    exact ownsRow_setCell_other hown (a := ⟨w.heap.size + 1 + 1, 2, none⟩) (fun e => row_ne hown g4 (by decide) e.symm) _
theorem pairs_row {w : World} {base e cap g : Nat} {ls : List (List UInt8 × Int)} (h : w.ownsRow base e 2 (.slice (some ⟨g, 0, none⟩) ls.length cap) ls.length (pcells ls)) (hl : ls.length ≤ maxLen) (h64 : ∀ i, i < ls.length → In64 (ls.getD i ([], 0)).2) : PairsAt (.slice (some ⟨g, 0, none⟩) ls.length cap) ls w := by
  have hc : ∀ j, j < ls.length * 2 → w.cell? ⟨g, j, none⟩ = (pcells ls)[j]? := fun j hj => h.cellAt j hj
  refine ⟨hl, _, _, rfl, fun i hi => ⟨g, 0, rfl, ?_, ?_, h64 i hi⟩⟩
  · rw [Nat.zero_add, hc _ (by omega)]; exact (pcells_at ls i hi).1
  · rw [Nat.zero_add, hc _ (by omega)]; exact (pcells_at ls i hi).2
theorem row_sl {w : World} {base e size n : Nat} {v : Value} {xs : List Value} (h : w.ownsRow base e size v n xs) : ∃ a cap, v = .slice a n cap := by
  rcases h.2 with ⟨h, h0⟩ | ⟨g, c, _, h, _⟩
  · exact ⟨none, 0, by rw [h, h0]⟩
  · exact ⟨_, _, h⟩
theorem StI.lvFar {w w3 : World} {c : Scn} {lv mv : Value} {ls ms : List (List UInt8 × Int)} (h : StI w w3 c lv mv ls ms) {o' : Obj} : ∀ w4, (w3.alloc o').grownBy w4 lv.ownBlock → (w4.cell? ⟨w.heap.size + 1 + 1, 0, none⟩ = some lv ∧ w4.frozen? ⟨w.heap.size + 1 + 1, 0, none⟩ = false) ∧ ∀ j, w4.cell? ⟨w.heap.size, j, none⟩ = (scC c)[j]? := fun w4 hg => by
  obtain ⟨_, g2, _, g4⟩ := h.grown hg (fun k hk => (h.rl.lt k hk).1) (lv_apart h.rl)
  exact ⟨⟨by rw [cell_of_row w4 _ 0 _ _ _ g4]; rfl, by simp [World.frozen?, g4]⟩, fun j => cell_of_row w4 _ j _ _ _ g2⟩
theorem StI.mbFar {w w3 : World} {c : Scn} {lv mv : Value} {ls ms : List (List UInt8 × Int)} (h : StI w w3 c lv mv ls ms) {o' : Obj} : ∀ w4, (w3.alloc o').grownBy w4 mv.ownBlock → (w4.cell? ⟨w.heap.size + 1 + 1, 2, none⟩ = some mv ∧ w4.frozen? ⟨w.heap.size + 1 + 1, 2, none⟩ = false) ∧ ∀ j, w4.cell? ⟨w.heap.size, j, none⟩ = (scC c)[j]? := fun w4 hg => by
  obtain ⟨_, g2, _, g4⟩ := h.grown hg (fun k hk => (h.rm.lt k hk).1) (mb_apart h.rm)
  exact ⟨⟨by rw [cell_of_row w4 _ 2 _ _ _ g4]; rfl, by simp [World.frozen?, g4]⟩, fun j => cell_of_row w4 _ j _ _ _ g2⟩
theorem StI.cells {w w3 : World} {c : Scn} {lv mv : Value} {ls ms : List (List UInt8 × Int)} (h : StI w w3 c lv mv ls ms) : w3.cell? ⟨w.heap.size + 1 + 1, 0, none⟩ = some lv ∧ w3.cell? ⟨w.heap.size + 1 + 1, 2, none⟩ = some mv ∧ ∀ j, w3.cell? ⟨w.heap.size, j, none⟩ = (scC c)[j]? :=
  ⟨cell_of_row w3 _ 0 _ _ _ h.blk, cell_of_row w3 _ 2 _ _ _ h.blk, fun j => cell_of_row w3 _ j _ _ _ h.scn⟩
theorem scC_at (c : Scn) {k : Nat} (hk : k < 3) : (scC c)[5 + k]? = some (.int .i64 (lvA c k)) ∧ (scC c)[8 + k]? = some (.int .i64 (isA c k)) ∧ (scC c)[11 + k]? = some (.bool (abA c k)) := by
  have : k = 0 ∨ k = 1 ∨ k = 2 := by omega
  rcases this with rfl | rfl | rfl <;> exact ⟨rfl, rfl, rfl⟩
theorem lvl_len (c : Scn) : ∀ k, (lvl c k).length ≤ k := fun k => by
  induction k with
  | zero => simp [lvl]
  | succ k ih => rw [lvl]; split <;> (try rw [List.length_append, List.length_singleton]) <;> omega
theorem mbl_len (c : Scn) : ∀ k, (mbl c k).length ≤ k := fun k => by
  induction k with
  | zero => simp [mbl]
  | succ k ih => rw [mbl]; split <;> (try rw [List.length_append, List.length_singleton]) <;> omega
theorem lv2_len (c : Scn) : ∀ k, (lv2 c k).length ≤ k + 3 := fun k => by
  induction k with
  | zero => exact lvl_len c 3
  | succ k ih => rw [lv2, List.length_append, List.length_singleton]; omega
theorem mb2_len (c : Scn) : ∀ k, (mb2 c k).length ≤ k + 3 := fun k => by
  induction k with
  | zero => exact mbl_len c 3
  | succ k ih => rw [mb2, List.length_append, List.length_singleton]; omega
theorem lvl_in {c : Scn} (hc : ScnIn c) : ∀ k, ∀ p ∈ lvl c k, In64 p.2 := fun k => by
  induction k with
  | zero => intro p hp; simp [lvl] at hp
  | succ k ih =>
    intro p hp
    rw [lvl] at hp
    split at hp
    · exact ih p hp
    · rcases List.mem_append.1 hp with hp | hp
      · exact ih p hp
      · simp at hp; subst hp; show In64 (lvA c k); unfold lvA; split
        · exact hc.l0
        · split
          · exact hc.l1
          · exact hc.l2
theorem mbl_in {c : Scn} (hc : ScnIn c) : ∀ k, ∀ p ∈ mbl c k, In64 p.2 := fun k => by
  induction k with
  | zero => intro p hp; simp [mbl] at hp
  | succ k ih =>
    intro p hp
    rw [mbl] at hp
    split at hp
    · exact ih p hp
    · rcases List.mem_append.1 hp with hp | hp
      · exact ih p hp
      · simp at hp; subst hp; show In64 (isA c k); unfold isA; split
        · exact hc.i0
        · split
          · exact hc.i1
          · exact hc.i2
theorem lv2_in {c : Scn} (hc : ScnIn c) : ∀ k, ∀ p ∈ lv2 c k, In64 p.2 := fun k => by
  induction k with
  | zero => exact lvl_in hc 3
  | succ k ih =>
    intro p hp
    rw [lv2] at hp
    rcases List.mem_append.1 hp with hp | hp
    · exact ih p hp
    · simp at hp; subst hp; show In64 77; unfold In64; omega
theorem mb2_in {c : Scn} (hc : ScnIn c) : ∀ k, ∀ p ∈ mb2 c k, In64 p.2 := fun k => by
  induction k with
  | zero => exact mbl_in hc 3
  | succ k ih =>
    intro p hp
    rw [mb2] at hp
    rcases List.mem_append.1 hp with hp | hp
    · exact ih p hp
    · simp at hp; subst hp; show In64 4; unfold In64; omega
theorem in_getD {l : List (List UInt8 × Int)} (h : ∀ p ∈ l, In64 p.2) : ∀ i, i < l.length → In64 (l.getD i ([], 0)).2 := fun i hi => by
  rw [List.getD_eq_getElem?_getD, List.getElem?_eq_getElem hi]
  exact h _ (List.getElem_mem hi)
theorem row_four {w : World} {base e p : Nat} {v : Value} {n : Nat} {xs : List Value} (h : w.ownsRow base e 2 v n xs) (hp : some p ≠ v.ownBlock) (v0 v1 v2 v3 : Value) : ((((w.setCell ⟨p, 0, none⟩ v0).setCell ⟨p, 1, none⟩ v1).setCell ⟨p, 2, none⟩ v2).setCell ⟨p, 3, none⟩ v3).ownsRow base e 2 v n xs :=
  ownsRow_setCell_other (ownsRow_setCell_other (ownsRow_setCell_other (ownsRow_setCell_other h (a := ⟨p, 0, none⟩) (Ne.symm hp) _) (a := ⟨p, 1, none⟩) (Ne.symm hp) _) (a := ⟨p, 2, none⟩) (Ne.symm hp) _) (a := ⟨p, 3, none⟩) (Ne.symm hp) _
theorem StI.done {w wr : World} {c : Scn} {lv mv : Value} (h : StI w wr c lv mv (lv2 c 2) (mb2 c 2)) (hc : ScnIn c) : ∀ v0 v1 v2 v3 : Value,
    PairsAt lv (lv2 c 2) ((((wr.setCell ⟨w.heap.size + 1, 0, none⟩ v0).setCell ⟨w.heap.size + 1, 1, none⟩ v1).setCell ⟨w.heap.size + 1, 2, none⟩ v2).setCell ⟨w.heap.size + 1, 3, none⟩ v3) ∧ PairsAt mv (mb2 c 2) ((((wr.setCell ⟨w.heap.size + 1, 0, none⟩ v0).setCell ⟨w.heap.size + 1, 1, none⟩ v1).setCell ⟨w.heap.size + 1, 2, none⟩ v2).setCell ⟨w.heap.size + 1, 3, none⟩ v3) ∧ Below w.heap.size w ((((wr.setCell ⟨w.heap.size + 1, 0, none⟩ v0).setCell ⟨w.heap.size + 1, 1, none⟩ v1).setCell ⟨w.heap.size + 1, 2, none⟩ v2).setCell ⟨w.heap.size + 1, 3, none⟩ v3) := fun v0 v1 v2 v3 => by
  have k1 := row_four h.rl (row_ne h.rl h.res (by decide)) v0 v1 v2 v3
  have k2 := row_four h.rm (row_ne h.rm h.res (by decide)) v0 v1 v2 v3
  have hl := lv2_len c 2
  have hm := mb2_len c 2
  have hl0 : 0 < (lv2 c 2).length := by rw [lv2, List.length_append]; simp
  have hm0 : 0 < (mb2 c 2).length := by rw [mb2, List.length_append]; simp
  obtain ⟨g, cap, rfl, _, _⟩ := h.rl.form hl0
  obtain ⟨g', cap', rfl, _, _⟩ := h.rm.form hm0
  refine ⟨pairs_row k1 (by unfold maxLen; omega) (in_getD (lv2_in hc 2)), pairs_row k2 (by unfold maxLen; omega) (in_getD (mb2_in hc 2)), ?_⟩
  exact (((h.bel.setCell (by simp) _).setCell (by simp) _).setCell (by simp) _).setCell (by simp) _
theorem two_one {u : List UInt8} {x : Int} : ∀ v ∈ [S u, Value.int .i64 x], v.oneCell' = true := by
  intro v hv
  simp at hv
  rcases hv with rfl | rfl <;> rfl
set_option maxHeartbeats 8000000 in
theorem state_any {c : Scn} (hc : ScnIn c) (w : World) : Calls Tryz.prog 22 #[.agg (scC c)] w fun e w' => ∃ lv mv, e = .returned (sttV lv mv (scSt c)) ∧ PairsAt lv (scSt c).levels w' ∧ PairsAt mv (scSt c).members w' ∧ Below w.heap.size w w' := by
  obtain ⟨w2, hw2⟩ : ∃ w2, ((w.alloc (.cells (scC c) 37)).alloc (.cells #[.slice none 0 0, .int .i64 0, .slice none 0 0, .bool false] 50)).alloc (.cells #[.slice none 0 0, .int .i64 c.df, .slice none 0 0, .bool c.op] 50) = w2 := ⟨_, rfl⟩
  have HI0 : Hid (StI w w2 c (.slice none 0 0) (.slice none 0 0) [] []) := by
    rw [← hw2]
    refine ⟨(((Below.refl _ w).alloc (Nat.le_refl _) _).alloc (by simp) _).alloc (by simp; omega) _, ?_, ?_, ?_, World.ownsRow_nil _ _ _ _, World.ownsRow_nil _ _ _ _⟩
    · exact (Below.heap_alloc _ _ _ (by simp; omega)).trans ((Below.heap_alloc _ _ _ (by simp)).trans (heap_alloc_new w _))
    · have h := heap_alloc_new (w.alloc (.cells (scC c) 37)) (.cells #[.slice none 0 0, .int .i64 0, .slice none 0 0, .bool false] 50)
      rw [World.size_alloc] at h
      exact (Below.heap_alloc _ _ _ (by simp)).trans h
    · have h := heap_alloc_new ((w.alloc (.cells (scC c) 37)).alloc (.cells #[.slice none 0 0, .int .i64 0, .slice none 0 0, .bool false] 50)) (.cells #[.slice none 0 0, .int .i64 c.df, .slice none 0 0, .bool c.op] 50)
      rw [World.size_alloc, World.size_alloc] at h
      exact h
  have HW : Hid _ := hw2
  clear hw2
  unfold scC at HW ⊢
  go_enter Tryz.func22, Tryz.ntmps22
  go_wp2_with fail
  rw [HW.out]
  clear HW
  go_loopw [4] (fun av wr => ∃ k : Nat, k ≤ 3 ∧ av = .int .i64 k ∧ Hid (∃ lv mv, StI w wr c lv mv (lvl c k) (mbl c k))) (fun av _ => 3 - (intOf av).toNat)
  case atStart => exact ⟨0, by omega, rfl, _, _, HI0.out⟩
  case round =>
    obtain ⟨k, hk3, rfl, HI⟩ := hrel
    by_cases hk : k < 3
    · obtain ⟨lv, mv, hI⟩ := HI.out
      have hk' : (k : Int) < 3 := by omega
      have W1 : ∀ w, Calls Tryz.prog 43 #[.int .i64 k] w fun e w' => e = .returned (S (userL k)) ∧ Below w.heap.size w w' := fun w => user_any (c := (k : Int)) (by unfold In64; omega) w
      obtain ⟨c1, c2, c3⟩ := scC_at c hk
      have q3 : wr.cell? ⟨w.heap.size, 11 + k, none⟩ = some (.bool (abA c k)) := (cell_of_row wr _ (11 + k) _ _ _ hI.scn).trans c3
      have q1 : wr.cell? ⟨w.heap.size, 5 + k, none⟩ = some (.int .i64 (lvA c k)) := (cell_of_row wr _ (5 + k) _ _ _ hI.scn).trans c1
      have HL : Hid (lvl c (k + 1) = if abA c k then lvl c k else lvl c k ++ [(userL k, lvA c k)]) := rfl
      have HM : Hid (mbl c (k + 1) = if abA c k then mbl c k else mbl c k ++ [(userL k, isA c k)]) := rfl
      have hln := lvl_len c k
      have hmn := mbl_len c k
      have HL0 : Hid _ := hI
      clear HI hI
      generalize abA c k = ab at *
      cases ab with
      | true =>
        go_wp2
        go_roundw
        case rel => exact ⟨k + 1, by omega, by go_num, _, _, by rw [HL.out, HM.out]; exact HL0.out⟩
        case measure => simp [intOf]; omega
      | false =>
        rw [if_neg (by decide)] at HL HM
        obtain ⟨la, lcap, rfl⟩ := row_sl HL0.out.rl
        obtain ⟨ma, mcap, rfl⟩ := row_sl HL0.out.rm
        obtain ⟨i0, hi, hz⟩ := Option.map_eq_some_iff.1 info_level
        simp only [Prod.mk.injEq] at hz
        obtain ⟨hz0, hz1, hz2⟩ := hz
        obtain ⟨j0, hj, hy⟩ := Option.map_eq_some_iff.1 info_member
        simp only [Prod.mk.injEq] at hy
        obtain ⟨hy0, hy1, hy2⟩ := hy
        generalize userL (k : Int) = us at *
        have HW1 : Hid _ := W1
        generalize lvA c k = x at *
        generalize isA c k = y at *
        generalize lvl c k = ls at *
        generalize mbl c k = ms at *
        obtain ⟨l0, m0, _⟩ := HL0.out.cells
        have HAT : Hid (∀ w3, Below wr.heap.size wr w3 → StI w w3 c (.slice la ls.length lcap) (.slice ma ms.length mcap) ls ms) := fun w3 h => HL0.out.at_ h
        have KD : Hid (∀ (W : World) (a : Addr) (v : Value), W.cell? a = some v → W.drew.cell? a = some v) := fun W a v h => h
        have KA : Hid (∀ (W : World) (o : Obj) (a : Addr) (v : Value), W.cell? a = some v → (W.alloc o).cell? a = some v) := fun W o a v h => (World.cell?_of_block (w := W) (a := a) (Below.heap_alloc W o a.block (World.block_lt_of_cell? W _ h))).trans h
        have KS : Hid (∀ (W : World) (j o : Nat) (v u : Value), W.cell? ⟨w.heap.size, j, none⟩ = some v → (W.setCell ⟨w.heap.size + 1 + 1, o, none⟩ u).cell? ⟨w.heap.size, j, none⟩ = some v) := fun W j o v u h => by
          rw [World.cell?_setCell_far _ _ _ _ (by simp only []; omega)]; exact h
        have hbnd : w.heap.size ≤ wr.heap.size := HL0.out.bel.size
        clear HL0 c3
        go_wp2_with fail
        go_cut [4] (fun s4 wx => s4 = .int .i64 k ∧ Hid (∃ lv, StI w wx c lv (.slice ma ms.length mcap) (ls ++ [(us, x)]) ms))
        case first =>
          go_region_law
            (first
            | (refine step_append_lies _ (by rfl) _ _ _ (by rfl) w.heap.size 108 i0 _ 2 24 Tryz.underlying47 hi hz0 hz1 hz2 (by rfl) (by decide) (.slice la ls.length lcap) ls.length (pcells ls) (by rfl) (HI3.out.rl.alloc _)
                ⟨w3.heap.size, 0, none⟩ 1 1 [S us, .int .i64 x] (by rfl) (by rfl) (World.news_of_block (heap_alloc_new w3 _)) two_one
                (by decide) (by unfold maxLen; omega) (by omega) (by have := hB3.size; simp; omega) (w3.heap.size + 1) (by simp) ?_; intro gg cap4 w4 hown4 hgrow4 hat4 hlt4; obtain ⟨⟨g1, g2⟩, g3⟩ := HI3.out.lvFar w4 hgrow4; clear g3 hat4 hlt4)
            | (go_simp; go_at_call 43; refine (W1 _).mono ?_; rintro e w3 ⟨rfl, hb3⟩; have hB3 : Below wr.heap.size wr w3 := ⟨hb3.os, hb3.tape, hb3.output, hb3.size, hb3.block⟩; have HI3 : Hid _ := HAT.out w3 hB3; obtain ⟨l3, m3, s3⟩ := HI3.out.cells; have s5 := (s3 (5 + k)).trans c1; have la3 := KA.out _ (.cells #[S us, .int .i64 x] 108) _ _ l3; clear s3 m3; dsimp only))
          all_goals
            have HN : Hid _ := HI3.out.lvNext hgrow4 hown4
            clear hown4 hgrow4 g1 g2
            go_wp2
            go_meet
            case rel => exact ⟨rfl, _, HN.out⟩
        case rest =>
          obtain ⟨rfl, HL2⟩ := hcut
          obtain ⟨lv2, hI2⟩ := HL2.out
          clear HAT HL2 l0 m0 q1 q3 W1
          have W1 : ∀ w, Calls Tryz.prog 43 #[.int .i64 k] w fun e w' => e = .returned (S us) ∧ Below w.heap.size w w' := HW1.out
          obtain ⟨l0, m0, s0⟩ := hI2.cells
          have q1 := (s0 (8 + k)).trans c2
          have HAT : Hid (∀ w3, Below wc.heap.size wc w3 → StI w w3 c lv2 (.slice ma ms.length mcap) (ls ++ [(us, x)]) ms) := fun w3 h => hI2.at_ h
          have hbnd2 : w.heap.size ≤ wc.heap.size := hI2.bel.size
          clear hI2 s0 l0
          go_wp2_with fail
          go_region_law
            (first
            | (refine step_append_lies _ (by rfl) _ _ _ (by rfl) w.heap.size 110 j0 _ 2 24 Tryz.underlying48 hj hy0 hy1 hy2 (by rfl) (by decide) (.slice ma ms.length mcap) ms.length (pcells ms) (by rfl) (HI3.out.rm.alloc _)
                ⟨w3.heap.size, 0, none⟩ 1 1 [S us, .int .i64 y] (by rfl) (by rfl) (World.news_of_block (heap_alloc_new w3 _)) two_one
                (by decide) (by unfold maxLen; omega) (by omega) (by have := hB3.size; simp; omega) (w3.heap.size + 1) (by simp) ?_; intro gg cap4 w4 hown4 hgrow4 hat4 hlt4; obtain ⟨⟨g1, g2⟩, g3⟩ := HI3.out.mbFar w4 hgrow4; clear g3 hat4 hlt4)
            | (go_simp; go_at_call 43; refine (W1 _).mono ?_; rintro e w3 ⟨rfl, hb3⟩; have hB3 : Below wc.heap.size wc w3 := ⟨hb3.os, hb3.tape, hb3.output, hb3.size, hb3.block⟩; have HI3 : Hid _ := HAT.out w3 hB3; obtain ⟨l3, m3, s3⟩ := HI3.out.cells; have s5 := (s3 (8 + k)).trans c2; have la3 := KA.out _ (.cells #[S us, .int .i64 y] 110) _ _ m3; clear s3 l3; dsimp only))
          all_goals
            have HN : Hid _ := HI3.out.mbNext hgrow4 hown4
            clear hown4 hgrow4 g1 g2
            go_wp2
            go_roundw
            case rel => exact ⟨k + 1, by omega, by go_num, _, _, by rw [HL.out, HM.out]; exact HN.out⟩
            case measure => simp [intOf]; omega
    · obtain rfl : k = 3 := by omega
      clear hk hk3
      rw [show ((3 : Nat) : Int) = 3 from rfl]
      go_wp2_with fail
      go_loopw [5] (fun av wr => ∃ k : Nat, k ≤ 2 ∧ av = .int .i64 k ∧ Hid (∃ lv mv, StI w wr c lv mv (lv2 c k) (mb2 c k))) (fun av _ => 2 - (intOf av).toNat)
      case atStart => exact ⟨0, by omega, rfl, HI.out⟩
      case round =>
        obtain ⟨k, hk3, rfl, HI⟩ := hrel
        by_cases hk : k < 2
        · obtain ⟨lv, mv, hI⟩ := HI.out
          have hk' : (k : Int) < 2 := by omega
          have hwr : IntKind.i64.wrap (2 * (k : Int)) = 2 * (k : Int) := by rw [IntKind.wrap_i64]; omega
          have W1 : ∀ w, Calls Tryz.prog 43 #[.int .i64 (2 * (k : Int))] w fun e w' => e = .returned (S (userL (2 * (k : Int)))) ∧ Below w.heap.size w w' := fun w => user_any (c := 2 * (k : Int)) (by unfold In64; omega) w
          have HL : Hid (lv2 c (k + 1) = lv2 c k ++ [(userL (2 * (k : Int)), 77)]) := rfl
          have HM : Hid (mb2 c (k + 1) = mb2 c k ++ [(userL (2 * (k : Int)), 4)]) := rfl
          have hln := lv2_len c k
          have hmn := mb2_len c k
          have HL0 : Hid _ := hI
          clear HI hI
          obtain ⟨la, lcap, rfl⟩ := row_sl HL0.out.rl
          obtain ⟨ma, mcap, rfl⟩ := row_sl HL0.out.rm
          obtain ⟨i0, hi, hz⟩ := Option.map_eq_some_iff.1 info_level
          simp only [Prod.mk.injEq] at hz
          obtain ⟨hz0, hz1, hz2⟩ := hz
          obtain ⟨j0, hj, hy⟩ := Option.map_eq_some_iff.1 info_member
          simp only [Prod.mk.injEq] at hy
          obtain ⟨hy0, hy1, hy2⟩ := hy
          generalize userL (2 * (k : Int)) = us at *
          have HW1 : Hid _ := W1
          generalize lv2 c k = ls at *
          generalize mb2 c k = ms at *
          obtain ⟨l0, m0, _⟩ := HL0.out.cells
          have HAT : Hid (∀ w3, Below wr.heap.size wr w3 → StI w w3 c (.slice la ls.length lcap) (.slice ma ms.length mcap) ls ms) := fun w3 h => HL0.out.at_ h
          have KA : Hid (∀ (W : World) (o : Obj) (a : Addr) (v : Value), W.cell? a = some v → (W.alloc o).cell? a = some v) := fun W o a v h => (World.cell?_of_block (w := W) (a := a) (Below.heap_alloc W o a.block (World.block_lt_of_cell? W _ h))).trans h
          have hbnd : w.heap.size ≤ wr.heap.size := HL0.out.bel.size
          clear HL0 m0
          go_wp2_with fail
          go_cut [5] (fun s5 wx => s5 = .int .i64 k ∧ Hid (∃ lv, StI w wx c lv (.slice ma ms.length mcap) (ls ++ [(us, 77)]) ms))
          case first =>
            go_region_law
              (first
              | (refine step_append_lies _ (by rfl) _ _ _ (by rfl) w.heap.size 108 i0 _ 2 24 Tryz.underlying47 hi hz0 hz1 hz2 (by rfl) (by decide) (.slice la ls.length lcap) ls.length (pcells ls) (by rfl) (HI3.out.rl.alloc _)
                  ⟨w3.heap.size, 0, none⟩ 1 1 [S us, .int .i64 77] (by rfl) (by rfl) (World.news_of_block (heap_alloc_new w3 _)) two_one
                  (by decide) (by unfold maxLen; omega) (by omega) (by have := hB3.size; simp; omega) (w3.heap.size + 1) (by simp) ?_; intro gg cap4 w4 hown4 hgrow4 hat4 hlt4; obtain ⟨⟨g1, g2⟩, g3⟩ := HI3.out.lvFar w4 hgrow4; clear g3 hat4 hlt4)
              | (go_simp; go_at_call 43; refine (W1 _).mono ?_; rintro e w3 ⟨rfl, hb3⟩; have hB3 : Below wr.heap.size wr w3 := ⟨hb3.os, hb3.tape, hb3.output, hb3.size, hb3.block⟩; have HI3 : Hid _ := HAT.out w3 hB3; obtain ⟨l3, m3, s3⟩ := HI3.out.cells; have la3 := KA.out _ (.cells #[S us, .int .i64 77] 108) _ _ l3; clear s3 m3; dsimp only))
            all_goals
              have HN : Hid _ := HI3.out.lvNext hgrow4 hown4
              clear hown4 hgrow4 g1 g2
              go_wp2
              go_meet
              case rel => exact ⟨rfl, _, HN.out⟩
          case rest =>
            obtain ⟨rfl, HL2⟩ := hcut
            obtain ⟨lvx, hI2⟩ := HL2.out
            clear HAT HL2 l0 W1
            have W1 : ∀ w, Calls Tryz.prog 43 #[.int .i64 (2 * (k : Int))] w fun e w' => e = .returned (S us) ∧ Below w.heap.size w w' := HW1.out
            obtain ⟨l0, m0, s0⟩ := hI2.cells
            have HAT : Hid (∀ w3, Below wc.heap.size wc w3 → StI w w3 c lvx (.slice ma ms.length mcap) (ls ++ [(us, 77)]) ms) := fun w3 h => hI2.at_ h
            have hbnd2 : w.heap.size ≤ wc.heap.size := hI2.bel.size
            clear hI2 s0 l0
            go_wp2_with fail
            go_region_law
              (first
              | (refine step_append_lies _ (by rfl) _ _ _ (by rfl) w.heap.size 110 j0 _ 2 24 Tryz.underlying48 hj hy0 hy1 hy2 (by rfl) (by decide) (.slice ma ms.length mcap) ms.length (pcells ms) (by rfl) (HI3.out.rm.alloc _)
                  ⟨w3.heap.size, 0, none⟩ 1 1 [S us, .int .i64 4] (by rfl) (by rfl) (World.news_of_block (heap_alloc_new w3 _)) two_one
                  (by decide) (by unfold maxLen; omega) (by omega) (by have := hB3.size; simp; omega) (w3.heap.size + 1) (by simp) ?_; intro gg cap4 w4 hown4 hgrow4 hat4 hlt4; obtain ⟨⟨g1, g2⟩, g3⟩ := HI3.out.mbFar w4 hgrow4; clear g3 hat4 hlt4)
              | (go_simp; go_at_call 43; refine (W1 _).mono ?_; rintro e w3 ⟨rfl, hb3⟩; have hB3 : Below wc.heap.size wc w3 := ⟨hb3.os, hb3.tape, hb3.output, hb3.size, hb3.block⟩; have HI3 : Hid _ := HAT.out w3 hB3; obtain ⟨l3, m3, s3⟩ := HI3.out.cells; have la3 := KA.out _ (.cells #[S us, .int .i64 4] 110) _ _ m3; clear s3 l3; dsimp only))
            all_goals
              have HN : Hid _ := HI3.out.mbNext hgrow4 hown4
              clear hown4 hgrow4 g1 g2
              go_wp2
              go_roundw
              case rel => exact ⟨k + 1, by omega, by go_num, _, _, by rw [HL.out, HM.out]; exact HN.out⟩
              case measure => simp [intOf]; omega
        · obtain rfl : k = 2 := by omega
          clear hk hk3
          obtain ⟨lv, mv, hI⟩ := HI.out
          have z0 : wr.cell? ⟨w.heap.size + 1 + 1, 0, none⟩ = some lv := cell_of_row wr _ 0 _ _ _ hI.blk
          have z1 : wr.cell? ⟨w.heap.size + 1 + 1, 1, none⟩ = some (.int .i64 c.df) := cell_of_row wr _ 1 _ _ _ hI.blk
          have z2 : wr.cell? ⟨w.heap.size + 1 + 1, 2, none⟩ = some mv := cell_of_row wr _ 2 _ _ _ hI.blk
          have z3 : wr.cell? ⟨w.heap.size + 1 + 1, 3, none⟩ = some (.bool c.op) := cell_of_row wr _ 3 _ _ _ hI.blk
          have r0 : wr.cell? ⟨w.heap.size + 1, 0, none⟩ = some (.slice none 0 0) := cell_of_row wr _ 0 _ _ _ hI.res
          have r1 : wr.cell? ⟨w.heap.size + 1, 1, none⟩ = some (.int .i64 0) := cell_of_row wr _ 1 _ _ _ hI.res
          have r2 : wr.cell? ⟨w.heap.size + 1, 2, none⟩ = some (.slice none 0 0) := cell_of_row wr _ 2 _ _ _ hI.res
          have r3 : wr.cell? ⟨w.heap.size + 1, 3, none⟩ = some (.bool false) := cell_of_row wr _ 3 _ _ _ hI.res
          have gf : ∀ o, wr.frozen? ⟨w.heap.size + 1, o, none⟩ = false := fun o => by simp [World.frozen?, hI.res]
          have g0 := gf 0
          have g1 := gf 1
          have g2 := gf 2
          have g3 := gf 3
          have HA : Hid _ := hI.done hc
          obtain ⟨la, lcap, rfl⟩ := row_sl hI.rl
          obtain ⟨ma, mcap, rfl⟩ := row_sl hI.rm
          clear hI HI gf
          go_wp2
          refine bodyPost_ret (v := .agg #[.slice la (lv2 c 2).length lcap, .int .i64 c.df, .slice ma (mb2 c 2).length mcap, .bool c.op]) (by simp [results, Tryz.results22, go_sem, cell_set_same, cell_set_off, some_set, r0, r1, r2, r3]) rfl ?_
          obtain ⟨h1, h2, h3⟩ := HA.out (.slice la (lv2 c 2).length lcap) (.int .i64 c.df) (.slice ma (mb2 c 2).length mcap) (.bool c.op)
          exact ⟨_, _, rfl, h1, h2, h3⟩

end Go.Proofs.YtfkdailfcmnjlaaGreatDoor

namespace Go.Proofs.YtfkdailfcmnjlaaGreatDoor
open Go Go.RowKit
set_option maxRecDepth 100000
attribute [local go_sem ↓] Go.wp_at_zero Go.wp_at_succ

def lvV (c : Scn) (n : Int) : Int := if abA c (pick3 n) = false then lvA c (pick3 n) else if pick3 n ≠ 1 then 77 else c.df
def isV (c : Scn) (n : Int) : Int := if abA c (pick3 n) = false then knownI (isA c (pick3 n)) else if pick3 n ≠ 1 then 4 else 0
set_option maxHeartbeats 4000000 in
theorem klevel_any {c : Scn} {n : Int} (hn : In64 n) (w : World) : Calls Tryz.prog 121 #[.agg (scC c), .int .i64 n] w fun e w' => e = .returned (.int .i64 (lvV c n)) ∧ Below w.heap.size w w' := by
  have W1 := fun w => pick_any hn w
  have hlt := pick3_lt n
  unfold lvV
  generalize pick3 n = k at *
  obtain ⟨sn, tg, wa, nd, wh, l0, l1, l2, i0, i1, i2, a0, a1, a2, df, op⟩ := c
  unfold scC abA lvA
  simp only []
  have hk : k = 0 ∨ k = 1 ∨ k = 2 := by omega
  have HB : Hid (∀ o, Below w.heap.size w (w.alloc o)) := fun o => (Below.refl _ _).alloc (Nat.le_refl _) _
  rcases hk with rfl | rfl | rfl
  · cases a0
    all_goals
      go_enter Tryz.func121, Tryz.ntmps121
      go_wp2_with (
        go_at_call 36
        refine (W1 _).mono ?_
        rintro e w' ⟨rfl, rfl⟩)
      go_ret
      exact ⟨rfl, HB.out _⟩
  · cases a1
    all_goals
      go_enter Tryz.func121, Tryz.ntmps121
      go_wp2_with (
        go_at_call 36
        refine (W1 _).mono ?_
        rintro e w' ⟨rfl, rfl⟩)
      go_ret
      exact ⟨rfl, HB.out _⟩
  · cases a2
    all_goals
      go_enter Tryz.func121, Tryz.ntmps121
      go_wp2_with (
        go_at_call 36
        refine (W1 _).mono ?_
        rintro e w' ⟨rfl, rfl⟩)
      go_ret
      exact ⟨rfl, HB.out _⟩
set_option maxHeartbeats 4000000 in
theorem kis_any {c : Scn} {n : Int} (hn : In64 n) (w : World) : Calls Tryz.prog 122 #[.agg (scC c), .int .i64 n] w fun e w' => e = .returned (.int .i64 (isV c n)) ∧ Below w.heap.size w w' := by
  have W1 := fun w => pick_any hn w
  have W2 := fun w => kknown_any (isA c (pick3 n)) w
  have hlt := pick3_lt n
  unfold isV
  generalize pick3 n = k at *
  generalize hkn : knownI (isA c k) = y at *
  have HKN : Hid _ := hkn
  clear hkn
  obtain ⟨sn, tg, wa, nd, wh, l0, l1, l2, i0, i1, i2, a0, a1, a2, df, op⟩ := c
  unfold scC abA at *
  unfold isA at W2
  simp only [] at *
  have hk : k = 0 ∨ k = 1 ∨ k = 2 := by omega
  have HB : Hid (∀ o, Below w.heap.size w (w.alloc o)) := fun o => (Below.refl _ _).alloc (Nat.le_refl _) _
  rcases hk with rfl | rfl | rfl
  · cases a0
    all_goals
      go_enter Tryz.func122, Tryz.ntmps122
      go_wp2_with (first
        | (go_at_call 36; refine (W1 _).mono ?_; rintro e w' ⟨rfl, rfl⟩)
        | (go_at_call 123; refine (W2 _).mono ?_; rintro e w' ⟨rfl, rfl⟩))
      go_ret
      exact ⟨rfl, HB.out _⟩
  · cases a1
    all_goals
      go_enter Tryz.func122, Tryz.ntmps122
      go_wp2_with (first
        | (go_at_call 36; refine (W1 _).mono ?_; rintro e w' ⟨rfl, rfl⟩)
        | (go_at_call 123; refine (W2 _).mono ?_; rintro e w' ⟨rfl, rfl⟩))
      go_ret
      exact ⟨rfl, HB.out _⟩
  · cases a2
    all_goals
      go_enter Tryz.func122, Tryz.ntmps122
      go_wp2_with (first
        | (go_at_call 36; refine (W1 _).mono ?_; rintro e w' ⟨rfl, rfl⟩)
        | (go_at_call 123; refine (W2 _).mono ?_; rintro e w' ⟨rfl, rfl⟩))
      go_ret
      exact ⟨rfl, HB.out _⟩
end Go.Proofs.YtfkdailfcmnjlaaGreatDoor

namespace Go.Proofs.YtfkdailfcmnjlaaGreatDoor
open Go Go.RowKit
set_option maxRecDepth 100000
attribute [local go_sem ↓] Go.wp_at_zero Go.wp_at_succ

def mkC (m : Mk) : List Value := [S m.text, S m.bare, .int .i64 m.told, .int .i64 (m.deep : Nat)]
def mkV (m : Mk) : Value := .agg #[S m.text, S m.bare, .int .i64 m.told, .int .i64 (m.deep : Nat)]
def noMk : Mk := ⟨[], [], 0, 0⟩
theorem mkC_at (l : List Mk) (i : Nat) (h : i < l.length) : (l.flatMap mkC)[i * 4]? = some (S (l.getD i noMk).text) ∧ (l.flatMap mkC)[i * 4 + 1]? = some (S (l.getD i noMk).bare) ∧ (l.flatMap mkC)[i * 4 + 2]? = some (.int .i64 (l.getD i noMk).told) ∧ (l.flatMap mkC)[i * 4 + 3]? = some (.int .i64 ((l.getD i noMk).deep : Nat)) := by
  induction l generalizing i with
  | nil => simp at h
  | cons m l ih =>
    cases i with
    | zero => simp [mkC]
    | succ i =>
      have := ih i (by simpa using h)
      rw [show (i + 1) * 4 = i * 4 + 4 from by omega]
      simp only [List.flatMap_cons, mkC, List.cons_append, List.nil_append, List.getD_cons_succ]
      exact ⟨this.1, this.2.1, this.2.2.1, this.2.2.2⟩
/-- A row of what was made. -/
def MR (b : Nat) (w : World) (v : Value) (l : List Mk) : Prop := w.ownsRow b 104 4 v l.length (l.flatMap mkC)
theorem MR.cells {b : Nat} {w : World} {g cap : Nat} {l : List Mk} (h : MR b w (.slice (some ⟨g, 0, none⟩) l.length cap) l) {i : Nat} (hi : i < l.length) : w.cell? ⟨g, i * 4, none⟩ = some (S (l.getD i noMk).text) ∧ w.cell? ⟨g, i * 4 + 1, none⟩ = some (S (l.getD i noMk).bare) ∧ w.cell? ⟨g, i * 4 + 2, none⟩ = some (.int .i64 (l.getD i noMk).told) ∧ w.cell? ⟨g, i * 4 + 3, none⟩ = some (.int .i64 ((l.getD i noMk).deep : Nat)) := by
  obtain ⟨q1, q2, q3, q4⟩ := mkC_at l i hi
  have hc : ∀ j, j < l.length * 4 → w.cell? ⟨g, j, none⟩ = (l.flatMap mkC)[j]? := fun j hj => h.cellAt j hj
  exact ⟨by rw [hc _ (by omega)]; exact q1, by rw [hc _ (by omega)]; exact q2, by rw [hc _ (by omega)]; exact q3, by rw [hc _ (by omega)]; exact q4⟩
/-- The one that stands so far from the end. -/
def lastM (l : List Mk) (n : Int) (o : Mk) : Mk := if l.length = 0 then o else l.getD (l.length - 1 - pickN n l.length) noMk
/-- Two with a sign between them. -/
def bothM (a : Mk) (x : List UInt8) (b : Mk) (t : Int) : Mk := ⟨[40] ++ a.text ++ [32] ++ x ++ [32] ++ b.text ++ [41], [40] ++ a.bare ++ [41] ++ x ++ [40] ++ b.bare ++ [41], t, max a.deep b.deep + 1⟩
set_option maxHeartbeats 4000000 in
theorem both_any (a : Mk) (x : List UInt8) (b : Mk) (t : Int) (ha : a.text.length ≤ 1000 ∧ a.bare.length ≤ 1000 ∧ a.deep ≤ 100) (hb : b.text.length ≤ 1000 ∧ b.bare.length ≤ 1000 ∧ b.deep ≤ 100) (hx : x.length ≤ 10) (w : World) : Calls Tryz.prog 73 #[mkV a, S x, mkV b, .int .i64 t] w fun e w' => e = .returned (mkV (bothM a x b t)) ∧ Below w.heap.size w w' := by
  have W1 := fun w => deeper_any a.deep b.deep 0 (by omega) (by omega) (by omega) w
  have HD : Hid (max (max a.deep b.deep) 0 + 1 = (bothM a x b t).deep) := by show _ = max a.deep b.deep + 1; omega
  rw [HD.out] at W1
  have HT : Hid ((bothM a x b t).text = [40] ++ a.text ++ [32] ++ x ++ [32] ++ b.text ++ [41]) := rfl
  have HBr : Hid ((bothM a x b t).bare = [40] ++ a.bare ++ [41] ++ x ++ [40] ++ b.bare ++ [41]) := rfl
  have HV : Hid ((bothM a x b t).told = t) := rfl
  generalize bothM a x b t = r at *
  obtain ⟨at_, ab, av, ad⟩ := a
  obtain ⟨bt, bb, bv, bd⟩ := b
  simp only [] at *
  clear HD
  unfold mkV
  simp only []
  obtain ⟨wz, hwz⟩ : ∃ wz, ((w.alloc (.cells #[S at_, S ab, .int .i64 av, .int .i64 (ad : Nat)] 104)).alloc (.cells #[S bt, S bb, .int .i64 bv, .int .i64 (bd : Nat)] 104)).alloc (.cells #[.string ⟨#[]⟩, .string ⟨#[]⟩, .int .i64 0, .int .i64 0] 104) = wz := ⟨_, rfl⟩
  have hB0 : Below w.heap.size w wz := by rw [← hwz]; exact (((Below.refl _ _).alloc (Nat.le_refl _) _).alloc (by simp) _).alloc (by simp; omega) _
  have hX0 : wz.heap[w.heap.size]? = some (.cells #[S at_, S ab, .int .i64 av, .int .i64 (ad : Nat)] 104 (0, 0)) := by rw [← hwz]; exact (Below.heap_alloc _ _ _ (by simp; omega)).trans ((Below.heap_alloc _ _ _ (by simp)).trans (heap_alloc_new w _))
  have hX1 : wz.heap[w.heap.size + 1]? = some (.cells #[S bt, S bb, .int .i64 bv, .int .i64 (bd : Nat)] 104 (0, 0)) := by
    rw [← hwz]
    refine (Below.heap_alloc _ _ _ (by simp)).trans ?_
    have := heap_alloc_new (w.alloc (.cells #[S at_, S ab, .int .i64 av, .int .i64 (ad : Nat)] 104)) (.cells #[S bt, S bb, .int .i64 bv, .int .i64 (bd : Nat)] 104)
    rw [World.size_alloc] at this; exact this
  have hX2 : wz.heap[w.heap.size + 1 + 1]? = some (.cells #[.string ⟨#[]⟩, .string ⟨#[]⟩, .int .i64 0, .int .i64 0] 104 (0, 0)) := by
    rw [← hwz]
    have := heap_alloc_new ((w.alloc (.cells #[S at_, S ab, .int .i64 av, .int .i64 (ad : Nat)] 104)).alloc (.cells #[S bt, S bb, .int .i64 bv, .int .i64 (bd : Nat)] 104)) (.cells #[.string ⟨#[]⟩, .string ⟨#[]⟩, .int .i64 0, .int .i64 0] 104)
    rw [World.size_alloc, World.size_alloc] at this; exact this
  have q0 := fun j => cell_of_row wz _ j _ _ _ hX0
  have q1 := fun j => cell_of_row wz _ j _ _ _ hX1
  have q2 := fun j => cell_of_row wz _ j _ _ _ hX2
  have qf : ∀ o, wz.frozen? ⟨w.heap.size + 1 + 1, o, none⟩ = false := fun o => by simp [World.frozen?, hX2]
  have hS0 : Below (w.heap.size + 1 + 1) wz wz ∧ wz.cell? ⟨w.heap.size, 0, none⟩ = some (S at_) ∧ wz.cell? ⟨w.heap.size, 1, none⟩ = some (S ab) ∧ wz.cell? ⟨w.heap.size, 3, none⟩ = some (.int .i64 (ad : Nat)) ∧ wz.cell? ⟨w.heap.size + 1, 0, none⟩ = some (S bt) ∧ wz.cell? ⟨w.heap.size + 1, 1, none⟩ = some (S bb) ∧ wz.cell? ⟨w.heap.size + 1, 3, none⟩ = some (.int .i64 (bd : Nat)) := ⟨Below.refl _ _, q0 0, q0 1, q0 3, q1 0, q1 1, q1 3⟩
  have r0 : wz.cell? ⟨w.heap.size + 1 + 1, 0, none⟩ = some (.string ⟨#[]⟩) := q2 0
  have g0 := qf 0
  have r1 : wz.cell? ⟨w.heap.size + 1 + 1, 1, none⟩ = some (.string ⟨#[]⟩) := q2 1
  have g1 := qf 1
  have r2 : wz.cell? ⟨w.heap.size + 1 + 1, 2, none⟩ = some (.int .i64 0) := q2 2
  have g2 := qf 2
  have r3 : wz.cell? ⟨w.heap.size + 1 + 1, 3, none⟩ = some (.int .i64 0) := q2 3
  have g3 := qf 3
  have KD : Hid (∀ W : World, (Below (w.heap.size + 1 + 1) wz W ∧ W.cell? ⟨w.heap.size, 0, none⟩ = some (S at_) ∧ W.cell? ⟨w.heap.size, 1, none⟩ = some (S ab) ∧ W.cell? ⟨w.heap.size, 3, none⟩ = some (.int .i64 (ad : Nat)) ∧ W.cell? ⟨w.heap.size + 1, 0, none⟩ = some (S bt) ∧ W.cell? ⟨w.heap.size + 1, 1, none⟩ = some (S bb) ∧ W.cell? ⟨w.heap.size + 1, 3, none⟩ = some (.int .i64 (bd : Nat))) → (Below (w.heap.size + 1 + 1) wz W.drew ∧ W.drew.cell? ⟨w.heap.size, 0, none⟩ = some (S at_) ∧ W.drew.cell? ⟨w.heap.size, 1, none⟩ = some (S ab) ∧ W.drew.cell? ⟨w.heap.size, 3, none⟩ = some (.int .i64 (ad : Nat)) ∧ W.drew.cell? ⟨w.heap.size + 1, 0, none⟩ = some (S bt) ∧ W.drew.cell? ⟨w.heap.size + 1, 1, none⟩ = some (S bb) ∧ W.drew.cell? ⟨w.heap.size + 1, 3, none⟩ = some (.int .i64 (bd : Nat)))) := fun W hS => by
    obtain ⟨hb0, s1⟩ := hS
    exact ⟨hb0.drew, s1⟩
  have KS : Hid (∀ (W : World) (v0 v1 v2 v3 : Value), (Below (w.heap.size + 1 + 1) wz W ∧ W.cell? ⟨w.heap.size, 0, none⟩ = some (S at_) ∧ W.cell? ⟨w.heap.size, 1, none⟩ = some (S ab) ∧ W.cell? ⟨w.heap.size, 3, none⟩ = some (.int .i64 (ad : Nat)) ∧ W.cell? ⟨w.heap.size + 1, 0, none⟩ = some (S bt) ∧ W.cell? ⟨w.heap.size + 1, 1, none⟩ = some (S bb) ∧ W.cell? ⟨w.heap.size + 1, 3, none⟩ = some (.int .i64 (bd : Nat))) → (Below (w.heap.size + 1 + 1) wz ((((W.setCell ⟨w.heap.size + 1 + 1, 0, none⟩ v0).setCell ⟨w.heap.size + 1 + 1, 1, none⟩ v1).setCell ⟨w.heap.size + 1 + 1, 2, none⟩ v2).setCell ⟨w.heap.size + 1 + 1, 3, none⟩ v3) ∧ ((((W.setCell ⟨w.heap.size + 1 + 1, 0, none⟩ v0).setCell ⟨w.heap.size + 1 + 1, 1, none⟩ v1).setCell ⟨w.heap.size + 1 + 1, 2, none⟩ v2).setCell ⟨w.heap.size + 1 + 1, 3, none⟩ v3).cell? ⟨w.heap.size, 0, none⟩ = some (S at_) ∧ ((((W.setCell ⟨w.heap.size + 1 + 1, 0, none⟩ v0).setCell ⟨w.heap.size + 1 + 1, 1, none⟩ v1).setCell ⟨w.heap.size + 1 + 1, 2, none⟩ v2).setCell ⟨w.heap.size + 1 + 1, 3, none⟩ v3).cell? ⟨w.heap.size, 1, none⟩ = some (S ab) ∧ ((((W.setCell ⟨w.heap.size + 1 + 1, 0, none⟩ v0).setCell ⟨w.heap.size + 1 + 1, 1, none⟩ v1).setCell ⟨w.heap.size + 1 + 1, 2, none⟩ v2).setCell ⟨w.heap.size + 1 + 1, 3, none⟩ v3).cell? ⟨w.heap.size, 3, none⟩ = some (.int .i64 (ad : Nat)) ∧ ((((W.setCell ⟨w.heap.size + 1 + 1, 0, none⟩ v0).setCell ⟨w.heap.size + 1 + 1, 1, none⟩ v1).setCell ⟨w.heap.size + 1 + 1, 2, none⟩ v2).setCell ⟨w.heap.size + 1 + 1, 3, none⟩ v3).cell? ⟨w.heap.size + 1, 0, none⟩ = some (S bt) ∧ ((((W.setCell ⟨w.heap.size + 1 + 1, 0, none⟩ v0).setCell ⟨w.heap.size + 1 + 1, 1, none⟩ v1).setCell ⟨w.heap.size + 1 + 1, 2, none⟩ v2).setCell ⟨w.heap.size + 1 + 1, 3, none⟩ v3).cell? ⟨w.heap.size + 1, 1, none⟩ = some (S bb) ∧ ((((W.setCell ⟨w.heap.size + 1 + 1, 0, none⟩ v0).setCell ⟨w.heap.size + 1 + 1, 1, none⟩ v1).setCell ⟨w.heap.size + 1 + 1, 2, none⟩ v2).setCell ⟨w.heap.size + 1 + 1, 3, none⟩ v3).cell? ⟨w.heap.size + 1, 3, none⟩ = some (.int .i64 (bd : Nat)))) := fun W v0 v1 v2 v3 hS => by
    obtain ⟨s0, s1, s2, s3, s4, s5, s6⟩ := hS
    refine ⟨(((s0.setCell (by simp) _).setCell (by simp) _).setCell (by simp) _).setCell (by simp) _, ?_, ?_, ?_, ?_, ?_, ?_⟩ <;>
      (rw [World.cell?_setCell_far _ _ _ _ (by simp only []; omega), World.cell?_setCell_far _ _ _ _ (by simp only []; omega), World.cell?_setCell_far _ _ _ _ (by simp only []; omega), World.cell?_setCell_far _ _ _ _ (by simp only []; omega)]; assumption)
  have HW : Hid _ := hwz
  have HB0 : Hid _ := hB0
  clear hwz hB0 hX0 hX1 hX2 q0 q1 q2 qf
  have lt0 : ¬ 9223372036854775807 < 1 + at_.length := by omega
  have lt1 : ¬ 9223372036854775807 < 1 + at_.length + 1 := by omega
  have lt2 : ¬ 9223372036854775807 < 1 + at_.length + 1 + x.length := by omega
  have lt3 : ¬ 9223372036854775807 < 1 + at_.length + 1 + x.length + 1 := by omega
  have lt4 : ¬ 9223372036854775807 < 1 + at_.length + 1 + x.length + 1 + bt.length := by omega
  have lt5 : ¬ 9223372036854775807 < 1 + at_.length + 1 + x.length + 1 + bt.length + 1 := by omega
  have lb0 : ¬ 9223372036854775807 < 1 + ab.length := by omega
  have lb1 : ¬ 9223372036854775807 < 1 + ab.length + 1 := by omega
  have lb2 : ¬ 9223372036854775807 < 1 + ab.length + 1 + x.length := by omega
  have lb3 : ¬ 9223372036854775807 < 1 + ab.length + 1 + x.length + 1 := by omega
  have lb4 : ¬ 9223372036854775807 < 1 + ab.length + 1 + x.length + 1 + bb.length := by omega
  have lb5 : ¬ 9223372036854775807 < 1 + ab.length + 1 + x.length + 1 + bb.length + 1 := by omega
  go_enter Tryz.func73, Tryz.ntmps73
  go_wp2_with fail
  rw [HW.out]
  go_region_held3 (fun W => Below (w.heap.size + 1 + 1) wz W ∧ W.cell? ⟨w.heap.size, 0, none⟩ = some (S at_) ∧ W.cell? ⟨w.heap.size, 1, none⟩ = some (S ab) ∧ W.cell? ⟨w.heap.size, 3, none⟩ = some (.int .i64 (ad : Nat)) ∧ W.cell? ⟨w.heap.size + 1, 0, none⟩ = some (S bt) ∧ W.cell? ⟨w.heap.size + 1, 1, none⟩ = some (S bb) ∧ W.cell? ⟨w.heap.size + 1, 3, none⟩ = some (.int .i64 (bd : Nat))) (first | with_reducible assumption | with_reducible exact KD.out _ (by assumption) | with_reducible exact KS.out _ _ _ _ _ (by assumption) | with_reducible exact KD.out _ (KS.out _ _ _ _ _ (by assumption)) | go_keep)
    (first
      | (go_at_call 124; refine (W1 _).mono ?_; rintro e w1 ⟨rfl, rfl⟩))
  rename_i hHeld
  have HBl : Hid _ := hHeld.1
  clear hHeld
  go_wp2
  refine bodyPost_ret (v := .agg #[.string ((⟨#[40]⟩ : ByteArray) ++ (⟨at_.toArray⟩ : ByteArray) ++ (⟨#[32]⟩ : ByteArray) ++ (⟨x.toArray⟩ : ByteArray) ++ (⟨#[32]⟩ : ByteArray) ++ (⟨bt.toArray⟩ : ByteArray) ++ (⟨#[41]⟩ : ByteArray)), .string ((⟨#[40]⟩ : ByteArray) ++ (⟨ab.toArray⟩ : ByteArray) ++ (⟨#[41]⟩ : ByteArray) ++ (⟨x.toArray⟩ : ByteArray) ++ (⟨#[40]⟩ : ByteArray) ++ (⟨bb.toArray⟩ : ByteArray) ++ (⟨#[41]⟩ : ByteArray)), .int .i64 t, .int .i64 (r.deep : Nat)]) (by simp [results, Tryz.results73, go_sem, cell_set_same, cell_set_off, some_set, r0, r1, r2, r3]) rfl ?_
  have eX : ((⟨#[40]⟩ : ByteArray) ++ (⟨at_.toArray⟩ : ByteArray) ++ (⟨#[32]⟩ : ByteArray) ++ (⟨x.toArray⟩ : ByteArray) ++ (⟨#[32]⟩ : ByteArray) ++ (⟨bt.toArray⟩ : ByteArray) ++ (⟨#[41]⟩ : ByteArray)) = ⟨([40] ++ at_ ++ [32] ++ x ++ [32] ++ bt ++ [41] : List UInt8).toArray⟩ := ByteArray.ext (by simp)
  have eY : ((⟨#[40]⟩ : ByteArray) ++ (⟨ab.toArray⟩ : ByteArray) ++ (⟨#[41]⟩ : ByteArray) ++ (⟨x.toArray⟩ : ByteArray) ++ (⟨#[40]⟩ : ByteArray) ++ (⟨bb.toArray⟩ : ByteArray) ++ (⟨#[41]⟩ : ByteArray)) = ⟨([40] ++ ab ++ [41] ++ x ++ [40] ++ bb ++ [41] : List UInt8).toArray⟩ := ByteArray.ext (by simp)
  refine ⟨by rw [eX, eY, HT.out, HBr.out, HV.out], HB0.out.trans (HBl.out.mono (by omega))⟩
end Go.Proofs.YtfkdailfcmnjlaaGreatDoor
