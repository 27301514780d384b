/-
  A condition of one word, laid behind those of its type. A condition of one word, laid behind those of its type: members, truths. A condition of one word, laid behind those of its type: what a scene tells. A condition of one word, laid behind those of its type: truths. A condition of one word, whichever: all that was made stays well. Conditions made of those there are: the two that are taken of a row. What is made of those there are is well (plain). Conditions made of those there are: what a kind of making wants.
-/
import Derived.Test.YtfkdailfcmnjlaaGreatDoorPlain01
import Derived.Test.YtfkdailfcmnjlaaGreatDoorPlain02
import Derived.Test.YtfkdailfcmnjlaaGreatDoorPlain03
import Derived.Test.YtfkdailfcmnjlaaGreatDoorPlain04
import Derived.Test.YtfkdailfcmnjlaaGreatDoorPlain05
import Derived.Test.YtfkdailfcmnjlaaGreatDoorPlain06
import Derived.Test.YtfkdailfcmnjlaaGreatDoorPlain07
import Derived.Test.YtfkdailfcmnjlaaGreatDoorPlain08
import Derived.Test.YtfkdailfcmnjlaaGreatDoorPlain09
import Derived.Test.YtfkdailfcmnjlaaGreatDoorPlain10
import Derived.Test.YtfkdailfcmnjlaaGreatDoorPlain11
import Derived.Test.YtfkdailfcmnjlaaGreatDoorPlain12
import Derived.Test.YtfkdailfcmnjlaaGreatDoorPlain13
import Derived.Test.YtfkdailfcmnjlaaGreatDoorPlain14
import Derived.Test.YtfkdailfcmnjlaaGreatDoorPlain15
import Derived.Test.YtfkdailfcmnjlaaGreatDoorPlain16
import Derived.Test.YtfkdailfcmnjlaaGreatDoorPlain17
import Derived.Test.YtfkdailfcmnjlaaGreatDoorPlain18
import Derived.Test.YtfkdailfcmnjlaaGreatDoorPlain19
import Derived.Test.YtfkdailfcmnjlaaGreatDoorPlain20
import Derived.Test.YtfkdailfcmnjlaaGreatDoorPlain21
import Derived.Test.YtfkdailfcmnjlaaGreatDoorPlain22
import Derived.Test.YtfkdailfcmnjlaaGreatDoorPlain23
import Derived.Test.YtfkdailfcmnjlaaGreatDoorPlain24
import Derived.Test.YtfkdailfcmnjlaaGreatDoorPlain25
import Derived.Test.YtfkdailfcmnjlaaGreatDoorPlain26
import Derived.Test.YtfkdailfcmnjlaaGreatDoorLays
import Derived.Test.YtfkdailfcmnjlaaGreatDoorLays2
import Derived.WalkKit
import Derived.Deep.QuietTactic
import Derived.BigQuiet
import Derived.WalkSpells
import GoSem.Op.String
import Derived.Deep.AppendLies
import Derived.Deep.RegionHeld3
import Derived.Deep.DrawnRows
import Derived.Deep.RegionHeldLaw
import Derived.Deep.RegionLaw
import Derived.Lib.ParseIntBCases
import Derived.Deep.OwnRows
import Derived.Lib.LaidTab
import Derived.Lib.AppendIntMem
import Derived.Shelf.Strings.Builder1
import Derived.Laws.CopyOwn
import Derived.Deep.DeepCutAuto
import Derived.WalkSmall
import Derived.Lib.AppendZerosOnto
import Derived.Shelf.Abstract
set_option linter.unusedVariables false
set_option linter.unusedSimpArgs false
namespace Go.Proofs.YtfkdailfcmnjlaaGreatDoor
open Go Go.RowKit
set_option maxRecDepth 100000
attribute [local go_sem ↓] Go.wp_at_zero Go.wp_at_succ

def tyJ (j : Nat) : UInt8 := if j = 0 then 110 else if j = 1 then 109 else 116
/-- All that was made is well. -/
def GoodL (fl : List Int) (l : Nat → List Mk) : Prop := ∀ j, j < 3 → ∀ m ∈ l j, MkOK fl (tyJ j) m
theorem GoodL.put {fl : List Int} {l : Nat → List Mk} (h : GoodL fl l) {j : Nat} {m : Mk} (hm : MkOK fl (tyJ j) m) : GoodL fl (upd l j (l j ++ [m])) := fun i hi q hq => by
  by_cases e : i = j
  · subst e
    rw [upd_same] at hq
    rcases List.mem_append.1 hq with hq | hq
    · exact h i hi q hq
    · simp at hq; subst hq; exact hm
  · rw [upd_other _ e] at hq; exact h i hi q hq
/-- What an append to a row wants and gives; w: the world at the call, w1: the one at hand. -/
structure AP (b : Nat) (w w1 : World) (p : Nat) (v : Nat → Value) (l : Nat → List Mk) (j : Nat) (va : Option Addr) (vc : Nat) : Prop where
  cell : w1.cell? ⟨p, j, none⟩ = some (.slice va (l j).length vc)
  row : w1.ownsRow b 104 4 (.slice va (l j).length vc) (l j).length ((l j).flatMap mkC)
  far : ∀ O w5, (w1.alloc O).grownBy w5 (Value.slice va (l j).length vc).ownBlock → w5.cell? ⟨p, j, none⟩ = some (.slice va (l j).length vc) ∧ w5.frozen? ⟨p, j, none⟩ = false
  put : ∀ O (m : Mk) gg cap' w5, (w1.alloc O).grownBy w5 (Value.slice va (l j).length vc).ownBlock → ((Value.slice va (l j).length vc).ownBlock = some gg ∨ gg = (w1.alloc O).heap.size) → w5.ownsRow b 104 4 (.slice (some ⟨gg, 0, none⟩) ((l j).length + 1) cap') ((l j).length + 1) ((l j).flatMap mkC ++ [S m.text, S m.bare, .int .i64 m.told, .int .i64 (m.deep : Nat)]) →
    (∃ v', TI b (w5.setCell ⟨p, j, none⟩ (.slice (some ⟨gg, 0, none⟩) ((l j).length + 1) cap')) p v' (upd l j (l j ++ [m]))) ∧ Below b w (w5.setCell ⟨p, j, none⟩ (.slice (some ⟨gg, 0, none⟩) ((l j).length + 1) cap'))
theorem TI.ready {b : Nat} {w w1 : World} {p : Nat} {v : Nat → Value} {l : Nat → List Mk} (h : TI b w p v l) (hb : b ≤ w.heap.size) (hB : Below w.heap.size w w1) {j : Nat} (hj : j < 3) : ∃ va vc, AP b w w1 p v l j va vc := by
  have h1 := h.below hB
  have hs := hB.size
  obtain ⟨va, vc, hv⟩ := row_sl (h1.row j hj)
  have e3 : j = 0 ∨ j = 1 ∨ j = 2 := by omega
  refine ⟨va, vc, ?_, ?_, fun O w5 hg => ?_, fun O m gg cap' w5 hg ha ho => ?_⟩
  · obtain ⟨c0, c1, c2, _⟩ := h1.cell
    rcases e3 with rfl | rfl | rfl
    · rw [c0, hv]
    · rw [c1, hv]
    · rw [c2, hv]
  · have := h1.row j hj
    unfold MR at this
    rw [hv] at this; exact this
  · obtain ⟨c0, c1, c2, c3⟩ := h1.far hj (w4 := w5) (by rw [hv]; exact hg)
    refine ⟨?_, c3 _⟩
    rcases e3 with rfl | rfl | rfl
    · rw [c0, hv]
    · rw [c1, hv]
    · rw [c2, hv]
  · have hg' : (w1.alloc O).grownBy w5 (v j).ownBlock := by rw [hv]; exact hg
    refine ⟨⟨_, h1.put hj hg' (by rw [hv]; rw [World.size_alloc] at ha; exact ha) ho⟩, ?_⟩
    exact (hB.mono hb).trans (h1.keep hj (by omega) hg' _)
set_option maxHeartbeats 4000000 in
theorem one_num {b p : Nat} {w : World} {v : Nat → Value} {l : Nat → List Mk} {c : Scn} {n : Int} (hn : In64 n) (hT : TI b w p v l) (hb : b ≤ w.heap.size) (hl : (l 0).length ≤ 1000) :
    Calls Tryz.prog 37 #[.pointer (some ⟨p, 0, none⟩), .agg (scC c), .int .i64 0, .int .i64 n] w fun e w' => e = .returned (.tuple #[]) ∧ ∃ (k : Nat) (v' : Nat → Value), k ≤ 9223372036854775807 ∧ TI b w' p v' (upd l 0 (l 0 ++ [⟨tensL k, 48 :: tensL k, k, 1⟩])) ∧ Below b w w' := by
  have W1 := fun w => pickN_any hn (n := 1099511627776) (by decide) (by decide) w
  have W2 := fun w => pickN_any hn (n := 7) (by decide) (by decide) w
  have p1 := pickN_lt n (n := 1099511627776) (by decide)
  have p2 := pickN_lt n (n := 7) (by decide)
  have hten : (10 : Nat) ^ 20 = 100000000000000000000 := by decide
  have WD : ∀ (k : Nat) (w : World), k ≤ 9223372036854775807 → Calls Tryz.prog 70 #[.int .i64 k] w fun e w' => e = .returned (S (tensL k)) ∧ Below w.heap.size w w' := fun k w hk => digits_any 20 k w (by omega) hk (by decide) (by decide)
  clear hten
  generalize pickN n 1099511627776 = k1 at *
  generalize pickN n 7 = k2 at *
  unfold scC
  by_cases h6 : k2 = 6
  · have W3 : ∀ w : World, Calls Tryz.prog 70 #[.int .i64 9223372036854775807] w fun e w' => e = .returned (S (tensL 9223372036854775807)) ∧ Below w.heap.size w w' := fun w => WD 9223372036854775807 w (Nat.le_refl _)
    subst h6
    go_enter Tryz.func37, Tryz.ntmps37
    go_wp2_with (first
      | (go_at_call_of 36 (Value.int IntKind.i64 7); refine (W2 _).mono ?_; rintro e w' ⟨rfl, rfl⟩)
      | (go_at_call 36; refine (W1 _).mono ?_; rintro e w' ⟨rfl, rfl⟩))
    refine (W3 _).mono ?_
    rintro e w1 ⟨rfl, hb1⟩
    have hB1 : Below w.heap.size w w1 := ((Below.refl _ _).alloc (Nat.le_refl _) _).trans (hb1.mono (by simp))
    have hs : (tensL 9223372036854775807).length ≤ 20 := tensF_len 20 _
    have hwb : b ≤ w1.heap.size := by have := hB1.size; omega
    obtain ⟨va, vc, hA⟩ := hT.ready hb hB1 (j := 0) (by decide)
    have t0 := hA.cell
    have HA : Hid _ := hA
    generalize hsd : tensL 9223372036854775807 = sd at *
    have HSD : Hid _ := hsd
    clear hsd hA hT hB1 hb1
    obtain ⟨i0, hi, hz⟩ := Option.map_eq_some_iff.1 info_made
    simp only [Prod.mk.injEq] at hz
    obtain ⟨hz0, hz1, hz2⟩ := hz
    have ls1 : ¬ 9223372036854775807 < 1 + sd.length := by omega
    have eS : (⟨#[48]⟩ : ByteArray) ++ ⟨sd.toArray⟩ = ⟨(48 :: sd).toArray⟩ := ByteArray.ext (by simp)
    go_wp2_with (at_builtin; go_must (refine wpList_append_lies _ (by rfl) _ _ 98 (by rfl) b 104 i0 _ 4 48 Tryz.underlying98 hi hz0 hz1 hz2 (by rfl) (by decide) _ _ _ (by rfl) (World.ownsRow.alloc HA.out.row _) ⟨w1.heap.size, 0, none⟩ 1 1 [S sd, S (48 :: sd), .int .i64 9223372036854775807, .int .i64 1] (by rfl) (by rfl) (World.news_of_block (heap_alloc_new w1 _)) (fun x hx => by simp at hx; rcases hx with rfl | rfl | rfl | rfl <;> rfl) (by decide) (by unfold maxLen; omega) (by omega) (by simp; omega) _ rfl ?_); intro gg cap' w5 hown3 hgrow hat hlt3; obtain ⟨y0, yf0⟩ := HA.out.far _ _ hgrow; have HN : Hid _ := HA.out.put _ ⟨sd, 48 :: sd, 9223372036854775807, 1⟩ _ _ _ hgrow hat hown3; clear hown3 hgrow hat)
    go_end0
    obtain ⟨⟨v', h1⟩, h2⟩ := HN.out
    refine ⟨rfl, 9223372036854775807, v', by omega, ?_, h2⟩
    rw [HSD.out]
    exact h1
  · have W3 : ∀ w : World, Calls Tryz.prog 70 #[.int .i64 k1] w fun e w' => e = .returned (S (tensL k1)) ∧ Below w.heap.size w w' := fun w => WD k1 w (by omega)
    have h6b : ((k2 : Int) == 6) = false := by simp; omega
    have hkw : IntKind.i64.wrap (k1 : Int) = (k1 : Int) := by rw [IntKind.wrap_i64]; omega
    go_enter Tryz.func37, Tryz.ntmps37
    go_wp2_with (first
      | (go_at_call_of 36 (Value.int IntKind.i64 7); refine (W2 _).mono ?_; rintro e w' ⟨rfl, rfl⟩)
      | (go_at_call 36; refine (W1 _).mono ?_; rintro e w' ⟨rfl, rfl⟩))
    refine (W3 _).mono ?_
    rintro e w1 ⟨rfl, hb1⟩
    have hB1 : Below w.heap.size w w1 := ((Below.refl _ _).alloc (Nat.le_refl _) _).trans (hb1.mono (by simp))
    have hs : (tensL k1).length ≤ 20 := tensF_len 20 _
    have hwb : b ≤ w1.heap.size := by have := hB1.size; omega
    obtain ⟨va, vc, hA⟩ := hT.ready hb hB1 (j := 0) (by decide)
    have t0 := hA.cell
    have HA : Hid _ := hA
    generalize hsd : tensL k1 = sd at *
    have HSD : Hid _ := hsd
    clear hsd hA hT hB1 hb1
    obtain ⟨i0, hi, hz⟩ := Option.map_eq_some_iff.1 info_made
    simp only [Prod.mk.injEq] at hz
    obtain ⟨hz0, hz1, hz2⟩ := hz
    have ls1 : ¬ 9223372036854775807 < 1 + sd.length := by omega
    have eS : (⟨#[48]⟩ : ByteArray) ++ ⟨sd.toArray⟩ = ⟨(48 :: sd).toArray⟩ := ByteArray.ext (by simp)
    go_wp2_with (at_builtin; go_must (refine wpList_append_lies _ (by rfl) _ _ 98 (by rfl) b 104 i0 _ 4 48 Tryz.underlying98 hi hz0 hz1 hz2 (by rfl) (by decide) _ _ _ (by rfl) (World.ownsRow.alloc HA.out.row _) ⟨w1.heap.size, 0, none⟩ 1 1 [S sd, S (48 :: sd), .int .i64 (k1 : Nat), .int .i64 1] (by rfl) (by rfl) (World.news_of_block (heap_alloc_new w1 _)) (fun x hx => by simp at hx; rcases hx with rfl | rfl | rfl | rfl <;> rfl) (by decide) (by unfold maxLen; omega) (by omega) (by simp; omega) _ rfl ?_); intro gg cap' w5 hown3 hgrow hat hlt3; obtain ⟨y0, yf0⟩ := HA.out.far _ _ hgrow; have HN : Hid _ := HA.out.put _ ⟨sd, 48 :: sd, (k1 : Nat), 1⟩ _ _ _ hgrow hat hown3; clear hown3 hgrow hat)
    go_end0
    obtain ⟨⟨v', h1⟩, h2⟩ := HN.out
    refine ⟨rfl, k1, v', by omega, ?_, h2⟩
    rw [HSD.out]
    exact h1
end Go.Proofs.YtfkdailfcmnjlaaGreatDoor

namespace Go.Proofs.YtfkdailfcmnjlaaGreatDoor
open Go Go.RowKit
set_option maxRecDepth 100000
attribute [local go_sem ↓] Go.wp_at_zero Go.wp_at_succ

set_option maxHeartbeats 4000000 in
theorem one_mem {b p : Nat} {w : World} {v : Nat → Value} {l : Nat → List Mk} {c : Scn} {n : Int} (hn : In64 n) (hT : TI b w p v l) (hb : b ≤ w.heap.size) (hl : (l 1).length ≤ 1000) :
    Calls Tryz.prog 37 #[.pointer (some ⟨p, 0, none⟩), .agg (scC c), .int .i64 1, .int .i64 n] w fun e w' => e = .returned (.tuple #[]) ∧ ∃ (k : Nat) (v' : Nat → Value), k < 5 ∧ TI b w' p v' (upd l 1 (l 1 ++ [⟨kMembers.getD k [], kMembers.getD k [], k, 1⟩])) ∧ Below b w w' := by
  have W1 := fun w => pickN_any hn (n := 5) (by decide) (by decide) w
  have p1 := pickN_lt n (n := 5) (by decide)
  generalize pickN n 5 = k at *
  unfold scC
  obtain ⟨i0, hi, hz⟩ := Option.map_eq_some_iff.1 info_made
  simp only [Prod.mk.injEq] at hz
  obtain ⟨hz0, hz1, hz2⟩ := hz
  have hk : k = 0 ∨ k = 1 ∨ k = 2 ∨ k = 3 ∨ k = 4 := by omega
  rcases hk with rfl | rfl | rfl | rfl | rfl
  · go_enter Tryz.func37, Tryz.ntmps37
    go_upto_region 19 with (first
      | (go_at_call 36; refine (W1 _).mono ?_; rintro e w' ⟨rfl, rfl⟩))
    go_name_world w1 hw1
    have hB1 : Below w.heap.size w w1 := by rw [← hw1]; exact ((Below.refl _ _).alloc (Nat.le_refl _) _).alloc (by simp) _
    have hwb : b ≤ w1.heap.size := by have := hB1.size; omega
    obtain ⟨va, vc, hA⟩ := hT.ready hb hB1 (j := 1) (by decide)
    have t0 := hA.cell
    have HA : Hid _ := hA
    clear hA hT hB1 hw1
    go_wp2_with (at_builtin; go_must (refine wpList_append_lies _ (by rfl) _ _ 98 (by rfl) b 104 i0 _ 4 48 Tryz.underlying98 hi hz0 hz1 hz2 (by rfl) (by decide) _ _ _ (by rfl) (World.ownsRow.alloc HA.out.row _) ⟨w1.heap.size, 0, none⟩ 1 1 [S [110, 111, 110, 101], S [110, 111, 110, 101], .int .i64 0, .int .i64 1] (by rfl) (by rfl) (World.news_of_block (heap_alloc_new w1 _)) (fun x hx => by simp at hx; rcases hx with rfl | rfl | rfl | rfl <;> rfl) (by decide) (by unfold maxLen; omega) (by omega) (by simp; omega) _ rfl ?_); intro gg cap' w5 hown3 hgrow hat hlt3; obtain ⟨y0, yf0⟩ := HA.out.far _ _ hgrow; have HN : Hid _ := HA.out.put _ ⟨[110, 111, 110, 101], [110, 111, 110, 101], 0, 1⟩ _ _ _ hgrow hat hown3; clear hown3 hgrow hat)
    go_end0
    obtain ⟨⟨v', h1⟩, h2⟩ := HN.out
    exact ⟨rfl, 0, v', by omega, h1, h2⟩
  · go_enter Tryz.func37, Tryz.ntmps37
    go_upto_region 19 with (first
      | (go_at_call 36; refine (W1 _).mono ?_; rintro e w' ⟨rfl, rfl⟩))
    go_name_world w1 hw1
    have hB1 : Below w.heap.size w w1 := by rw [← hw1]; exact ((Below.refl _ _).alloc (Nat.le_refl _) _).alloc (by simp) _
    have hwb : b ≤ w1.heap.size := by have := hB1.size; omega
    obtain ⟨va, vc, hA⟩ := hT.ready hb hB1 (j := 1) (by decide)
    have t0 := hA.cell
    have HA : Hid _ := hA
    clear hA hT hB1 hw1
    go_wp2_with (at_builtin; go_must (refine wpList_append_lies _ (by rfl) _ _ 98 (by rfl) b 104 i0 _ 4 48 Tryz.underlying98 hi hz0 hz1 hz2 (by rfl) (by decide) _ _ _ (by rfl) (World.ownsRow.alloc HA.out.row _) ⟨w1.heap.size, 0, none⟩ 1 1 [S [105, 110, 118, 105, 116, 101], S [105, 110, 118, 105, 116, 101], .int .i64 1, .int .i64 1] (by rfl) (by rfl) (World.news_of_block (heap_alloc_new w1 _)) (fun x hx => by simp at hx; rcases hx with rfl | rfl | rfl | rfl <;> rfl) (by decide) (by unfold maxLen; omega) (by omega) (by simp; omega) _ rfl ?_); intro gg cap' w5 hown3 hgrow hat hlt3; obtain ⟨y0, yf0⟩ := HA.out.far _ _ hgrow; have HN : Hid _ := HA.out.put _ ⟨[105, 110, 118, 105, 116, 101], [105, 110, 118, 105, 116, 101], 1, 1⟩ _ _ _ hgrow hat hown3; clear hown3 hgrow hat)
    go_end0
    obtain ⟨⟨v', h1⟩, h2⟩ := HN.out
    exact ⟨rfl, 1, v', by omega, h1, h2⟩
  · go_enter Tryz.func37, Tryz.ntmps37
    go_upto_region 19 with (first
      | (go_at_call 36; refine (W1 _).mono ?_; rintro e w' ⟨rfl, rfl⟩))
    go_name_world w1 hw1
    have hB1 : Below w.heap.size w w1 := by rw [← hw1]; exact ((Below.refl _ _).alloc (Nat.le_refl _) _).alloc (by simp) _
    have hwb : b ≤ w1.heap.size := by have := hB1.size; omega
    obtain ⟨va, vc, hA⟩ := hT.ready hb hB1 (j := 1) (by decide)
    have t0 := hA.cell
    have HA : Hid _ := hA
    clear hA hT hB1 hw1
    go_wp2_with (at_builtin; go_must (refine wpList_append_lies _ (by rfl) _ _ 98 (by rfl) b 104 i0 _ 4 48 Tryz.underlying98 hi hz0 hz1 hz2 (by rfl) (by decide) _ _ _ (by rfl) (World.ownsRow.alloc HA.out.row _) ⟨w1.heap.size, 0, none⟩ 1 1 [S [106, 111, 105, 110], S [106, 111, 105, 110], .int .i64 2, .int .i64 1] (by rfl) (by rfl) (World.news_of_block (heap_alloc_new w1 _)) (fun x hx => by simp at hx; rcases hx with rfl | rfl | rfl | rfl <;> rfl) (by decide) (by unfold maxLen; omega) (by omega) (by simp; omega) _ rfl ?_); intro gg cap' w5 hown3 hgrow hat hlt3; obtain ⟨y0, yf0⟩ := HA.out.far _ _ hgrow; have HN : Hid _ := HA.out.put _ ⟨[106, 111, 105, 110], [106, 111, 105, 110], 2, 1⟩ _ _ _ hgrow hat hown3; clear hown3 hgrow hat)
    go_end0
    obtain ⟨⟨v', h1⟩, h2⟩ := HN.out
    exact ⟨rfl, 2, v', by omega, h1, h2⟩
  · go_enter Tryz.func37, Tryz.ntmps37
    go_upto_region 19 with (first
      | (go_at_call 36; refine (W1 _).mono ?_; rintro e w' ⟨rfl, rfl⟩))
    go_name_world w1 hw1
    have hB1 : Below w.heap.size w w1 := by rw [← hw1]; exact ((Below.refl _ _).alloc (Nat.le_refl _) _).alloc (by simp) _
    have hwb : b ≤ w1.heap.size := by have := hB1.size; omega
    obtain ⟨va, vc, hA⟩ := hT.ready hb hB1 (j := 1) (by decide)
    have t0 := hA.cell
    have HA : Hid _ := hA
    clear hA hT hB1 hw1
    go_wp2_with (at_builtin; go_must (refine wpList_append_lies _ (by rfl) _ _ 98 (by rfl) b 104 i0 _ 4 48 Tryz.underlying98 hi hz0 hz1 hz2 (by rfl) (by decide) _ _ _ (by rfl) (World.ownsRow.alloc HA.out.row _) ⟨w1.heap.size, 0, none⟩ 1 1 [S [108, 101, 97, 118, 101], S [108, 101, 97, 118, 101], .int .i64 3, .int .i64 1] (by rfl) (by rfl) (World.news_of_block (heap_alloc_new w1 _)) (fun x hx => by simp at hx; rcases hx with rfl | rfl | rfl | rfl <;> rfl) (by decide) (by unfold maxLen; omega) (by omega) (by simp; omega) _ rfl ?_); intro gg cap' w5 hown3 hgrow hat hlt3; obtain ⟨y0, yf0⟩ := HA.out.far _ _ hgrow; have HN : Hid _ := HA.out.put _ ⟨[108, 101, 97, 118, 101], [108, 101, 97, 118, 101], 3, 1⟩ _ _ _ hgrow hat hown3; clear hown3 hgrow hat)
    go_end0
    obtain ⟨⟨v', h1⟩, h2⟩ := HN.out
    exact ⟨rfl, 3, v', by omega, h1, h2⟩
  · go_enter Tryz.func37, Tryz.ntmps37
    go_upto_region 19 with (first
      | (go_at_call 36; refine (W1 _).mono ?_; rintro e w' ⟨rfl, rfl⟩))
    go_name_world w1 hw1
    have hB1 : Below w.heap.size w w1 := by rw [← hw1]; exact ((Below.refl _ _).alloc (Nat.le_refl _) _).alloc (by simp) _
    have hwb : b ≤ w1.heap.size := by have := hB1.size; omega
    obtain ⟨va, vc, hA⟩ := hT.ready hb hB1 (j := 1) (by decide)
    have t0 := hA.cell
    have HA : Hid _ := hA
    clear hA hT hB1 hw1
    go_wp2_with (at_builtin; go_must (refine wpList_append_lies _ (by rfl) _ _ 98 (by rfl) b 104 i0 _ 4 48 Tryz.underlying98 hi hz0 hz1 hz2 (by rfl) (by decide) _ _ _ (by rfl) (World.ownsRow.alloc HA.out.row _) ⟨w1.heap.size, 0, none⟩ 1 1 [S [98, 97, 110], S [98, 97, 110], .int .i64 4, .int .i64 1] (by rfl) (by rfl) (World.news_of_block (heap_alloc_new w1 _)) (fun x hx => by simp at hx; rcases hx with rfl | rfl | rfl | rfl <;> rfl) (by decide) (by unfold maxLen; omega) (by omega) (by simp; omega) _ rfl ?_); intro gg cap' w5 hown3 hgrow hat hlt3; obtain ⟨y0, yf0⟩ := HA.out.far _ _ hgrow; have HN : Hid _ := HA.out.put _ ⟨[98, 97, 110], [98, 97, 110], 4, 1⟩ _ _ _ hgrow hat hown3; clear hown3 hgrow hat)
    go_end0
    obtain ⟨⟨v', h1⟩, h2⟩ := HN.out
    exact ⟨rfl, 4, v', by omega, h1, h2⟩
end Go.Proofs.YtfkdailfcmnjlaaGreatDoor

namespace Go.Proofs.YtfkdailfcmnjlaaGreatDoor
open Go Go.RowKit
set_option maxRecDepth 100000
attribute [local go_sem ↓] Go.wp_at_zero Go.wp_at_succ loadAt_sc

set_option maxHeartbeats 4000000 in
theorem one_field {b p : Nat} {w : World} {v : Nat → Value} {l : Nat → List Mk} {c : Scn} (hc : ScnIn c) {n : Int} (hn : In64 n) {kd : Nat} (h3 : 3 ≤ kd) (h5 : kd ≤ 5) (hT : TI b w p v l) (hb : b ≤ w.heap.size) (hl : ∀ j, j < 3 → (l j).length ≤ 1000) :
    Calls Tryz.prog 37 #[.pointer (some ⟨p, 0, none⟩), .agg (scC c), .int .i64 kd, .int .i64 n] w fun e w' => e = .returned (.tuple #[]) ∧ ∃ (k j : Nat) (v' : Nat → Value), k < 9 ∧ j = (if k < 4 then 0 else if k < 7 then 1 else 2) ∧ TI b w' p v' (upd l j (l j ++ [⟨kFields.getD k [], kFields.getD k [], (scF c).getD k 0, 1⟩])) ∧ Below b w w' := by
  have W1 := fun w => pickN_any hn (n := 9) (by decide) (by decide) w
  have p1 := pickN_lt n (n := 9) (by decide)
  generalize pickN n 9 = k at *
  have W2 := fun w => field_any hc p1 w
  have HO : (loadSc (.pointer (some ⟨w.heap.size, 0, none⟩))).run Tryz.prog (w.alloc (.cells (scC c) 37)) = .ok (.agg (scC c)) (w.alloc (.cells (scC c) 37)) := loadSc_row _ _ _ (heap_alloc_new w _) rfl
  have hk0 : ((kd : Int) == 0) = false := by simp; omega
  have hk1 : ((kd : Int) == 1) = false := by simp; omega
  have hk2 : ((kd : Int) == 2) = false := by simp; omega
  have hfl : (kFields.getD k []).length ≤ 10 := by
    have h9 : k = 0 ∨ k = 1 ∨ k = 2 ∨ k = 3 ∨ k = 4 ∨ k = 5 ∨ k = 6 ∨ k = 7 ∨ k = 8 := by omega
    rcases h9 with rfl | rfl | rfl | rfl | rfl | rfl | rfl | rfl | rfl <;> decide
  generalize hF : kFields.getD k [] = fw at *
  generalize hV : (scF c).getD k 0 = fv at *
  generalize hcs : scC c = cs at *
  have HF : Hid _ := hF
  have HV : Hid _ := hV
  have HCS : Hid _ := hcs
  clear hF hV
  by_cases k4 : k < 4
  · have i4 : (k : Int) < 4 := by omega
    rw [← hcs] at HO W2 ⊢
    unfold scC at *
    clear hcs
    have hlj := hl 0 (by decide)
    go_enter Tryz.func37, Tryz.ntmps37
    go_upto_region 7 with (first
      | (go_at_call 36; refine (W1 _).mono ?_; rintro e w' ⟨rfl, rfl⟩)
      | (go_at_call 71; refine (W2 _).mono ?_; rintro e w2 ⟨rfl, hb2⟩))
    go_name_world w1 hw1
    have hB2 : Below w.heap.size w w2 := ((Below.refl _ _).alloc (Nat.le_refl _) _).trans (hb2.mono (by simp))
    have hB1 : Below w.heap.size w w1 := by rw [← hw1]; exact hB2.alloc hB2.size _
    have hX1 : w1.heap[w2.heap.size]? = some (.cells #[S fw, S fw, .int .i64 fv, .int .i64 1] 104 (0, 0)) := by rw [← hw1]; exact heap_alloc_new w2 _
    have hwb : b ≤ w1.heap.size := by have := hB1.size; omega
    obtain ⟨va, vc, hA⟩ := hT.ready hb hB1.drew (j := 0) (by decide)
    have t0 : w1.cell? ⟨p, 0, none⟩ = some (.slice va (l 0).length vc) := hA.cell
    have pa : p < w1.heap.size := World.block_lt_of_cell? w1 _ t0
    have pb : p ≠ w1.heap.size := by omega
    have pc : w1.heap.size ≠ p := by omega
    have x0 : w1.cell? ⟨w2.heap.size, 0, none⟩ = some (S fw) := cell_of_row w1 _ 0 _ _ _ hX1
    have x1 : w1.cell? ⟨w2.heap.size, 1, none⟩ = some (S fw) := cell_of_row w1 _ 1 _ _ _ hX1
    have x2 : w1.cell? ⟨w2.heap.size, 2, none⟩ = some (.int .i64 fv) := cell_of_row w1 _ 2 _ _ _ hX1
    have x3 : w1.cell? ⟨w2.heap.size, 3, none⟩ = some (.int .i64 1) := cell_of_row w1 _ 3 _ _ _ hX1
    have HA : Hid _ := hA
    obtain ⟨i0, hi, hz⟩ := Option.map_eq_some_iff.1 info_made
    simp only [Prod.mk.injEq] at hz
    obtain ⟨hz0, hz1, hz2⟩ := hz
    clear hA hT hB1 hw1 hb2 hB2 hX1
    generalize w2.heap.size = xp at *
    go_region_law (first
      | (refine step_append_lies _ (by rfl) _ _ _ (by rfl) b 104 i0 _ 4 48 Tryz.underlying98 hi hz0 hz1 hz2 (by rfl) (by decide) (.slice va (l 0).length vc) (l 0).length ((l 0).flatMap mkC) (by rfl) (World.ownsRow.alloc HA.out.row _) ⟨w1.heap.size, 0, none⟩ 1 1 [S fw, S fw, .int .i64 fv, .int .i64 1] (by rfl) (by rfl) (World.news_of_block (heap_alloc_new w1.drew _)) (fun x hx => by simp at hx; rcases hx with rfl | rfl | rfl | rfl <;> rfl) (by decide) (by unfold maxLen; omega) (by omega) (by simp; omega) (w1.heap.size + 1) (by simp) ?_; intro gg cap' w5 hown3 hgrow hat hlt3; obtain ⟨y0, yf0⟩ := HA.out.far _ _ hgrow; have HN : Hid _ := HA.out.put _ ⟨fw, fw, fv, 1⟩ _ _ _ hgrow (by rcases hat with h | h; exact .inl h; right; rw [h, World.size_alloc]; rfl) hown3; clear hown3 hgrow hat))
    all_goals
      go_wp2_with fail
      go_end0
      obtain ⟨⟨v', h1⟩, h2⟩ := HN.out
      exact ⟨rfl, k, 0, v', p1, by rw [if_pos k4], by rw [HF.out, HV.out]; exact h1, h2⟩
  by_cases k7 : k < 7
  · have i4 : ¬ (k : Int) < 4 := by omega
    have i7 : (k : Int) < 7 := by omega
    rw [← hcs] at HO W2 ⊢
    unfold scC at *
    clear hcs
    have hlj := hl 1 (by decide)
    go_enter Tryz.func37, Tryz.ntmps37
    go_upto_region 9 with (first
      | (go_at_call 36; refine (W1 _).mono ?_; rintro e w' ⟨rfl, rfl⟩)
      | (go_at_call 71; refine (W2 _).mono ?_; rintro e w2 ⟨rfl, hb2⟩))
    go_name_world w1 hw1
    have hB2 : Below w.heap.size w w2 := ((Below.refl _ _).alloc (Nat.le_refl _) _).trans (hb2.mono (by simp))
    have hB1 : Below w.heap.size w w1 := by rw [← hw1]; exact hB2.alloc hB2.size _
    have hX1 : w1.heap[w2.heap.size]? = some (.cells #[S fw, S fw, .int .i64 fv, .int .i64 1] 104 (0, 0)) := by rw [← hw1]; exact heap_alloc_new w2 _
    have hwb : b ≤ w1.heap.size := by have := hB1.size; omega
    obtain ⟨va, vc, hA⟩ := hT.ready hb hB1.drew (j := 1) (by decide)
    have t0 : w1.cell? ⟨p, 1, none⟩ = some (.slice va (l 1).length vc) := hA.cell
    have pa : p < w1.heap.size := World.block_lt_of_cell? w1 _ t0
    have pb : p ≠ w1.heap.size := by omega
    have pc : w1.heap.size ≠ p := by omega
    have x0 : w1.cell? ⟨w2.heap.size, 0, none⟩ = some (S fw) := cell_of_row w1 _ 0 _ _ _ hX1
    have x1 : w1.cell? ⟨w2.heap.size, 1, none⟩ = some (S fw) := cell_of_row w1 _ 1 _ _ _ hX1
    have x2 : w1.cell? ⟨w2.heap.size, 2, none⟩ = some (.int .i64 fv) := cell_of_row w1 _ 2 _ _ _ hX1
    have x3 : w1.cell? ⟨w2.heap.size, 3, none⟩ = some (.int .i64 1) := cell_of_row w1 _ 3 _ _ _ hX1
    have HA : Hid _ := hA
    obtain ⟨i0, hi, hz⟩ := Option.map_eq_some_iff.1 info_made
    simp only [Prod.mk.injEq] at hz
    obtain ⟨hz0, hz1, hz2⟩ := hz
    clear hA hT hB1 hw1 hb2 hB2 hX1
    generalize w2.heap.size = xp at *
    go_region_law (first
      | (refine step_append_lies _ (by rfl) _ _ _ (by rfl) b 104 i0 _ 4 48 Tryz.underlying98 hi hz0 hz1 hz2 (by rfl) (by decide) (.slice va (l 1).length vc) (l 1).length ((l 1).flatMap mkC) (by rfl) (World.ownsRow.alloc HA.out.row _) ⟨w1.heap.size, 0, none⟩ 1 1 [S fw, S fw, .int .i64 fv, .int .i64 1] (by rfl) (by rfl) (World.news_of_block (heap_alloc_new w1.drew _)) (fun x hx => by simp at hx; rcases hx with rfl | rfl | rfl | rfl <;> rfl) (by decide) (by unfold maxLen; omega) (by omega) (by simp; omega) (w1.heap.size + 1) (by simp) ?_; intro gg cap' w5 hown3 hgrow hat hlt3; obtain ⟨y0, yf0⟩ := HA.out.far _ _ hgrow; have HN : Hid _ := HA.out.put _ ⟨fw, fw, fv, 1⟩ _ _ _ hgrow (by rcases hat with h | h; exact .inl h; right; rw [h, World.size_alloc]; rfl) hown3; clear hown3 hgrow hat))
    all_goals
      go_wp2_with fail
      go_end0
      obtain ⟨⟨v', h1⟩, h2⟩ := HN.out
      exact ⟨rfl, k, 1, v', p1, by rw [if_neg k4, if_pos k7], by rw [HF.out, HV.out]; exact h1, h2⟩
  · have i4 : ¬ (k : Int) < 4 := by omega
    have i7 : ¬ (k : Int) < 7 := by omega
    rw [← hcs] at HO W2 ⊢
    unfold scC at *
    clear hcs
    have hlj := hl 2 (by decide)
    go_enter Tryz.func37, Tryz.ntmps37
    go_upto_region 5 with (first
      | (go_at_call 36; refine (W1 _).mono ?_; rintro e w' ⟨rfl, rfl⟩)
      | (go_at_call 71; refine (W2 _).mono ?_; rintro e w2 ⟨rfl, hb2⟩))
    go_name_world w1 hw1
    have hB2 : Below w.heap.size w w2 := ((Below.refl _ _).alloc (Nat.le_refl _) _).trans (hb2.mono (by simp))
    have hB1 : Below w.heap.size w w1 := by rw [← hw1]; exact hB2.alloc hB2.size _
    have hX1 : w1.heap[w2.heap.size]? = some (.cells #[S fw, S fw, .int .i64 fv, .int .i64 1] 104 (0, 0)) := by rw [← hw1]; exact heap_alloc_new w2 _
    have hwb : b ≤ w1.heap.size := by have := hB1.size; omega
    obtain ⟨va, vc, hA⟩ := hT.ready hb hB1.drew (j := 2) (by decide)
    have t0 : w1.cell? ⟨p, 2, none⟩ = some (.slice va (l 2).length vc) := hA.cell
    have pa : p < w1.heap.size := World.block_lt_of_cell? w1 _ t0
    have pb : p ≠ w1.heap.size := by omega
    have pc : w1.heap.size ≠ p := by omega
    have x0 : w1.cell? ⟨w2.heap.size, 0, none⟩ = some (S fw) := cell_of_row w1 _ 0 _ _ _ hX1
    have x1 : w1.cell? ⟨w2.heap.size, 1, none⟩ = some (S fw) := cell_of_row w1 _ 1 _ _ _ hX1
    have x2 : w1.cell? ⟨w2.heap.size, 2, none⟩ = some (.int .i64 fv) := cell_of_row w1 _ 2 _ _ _ hX1
    have x3 : w1.cell? ⟨w2.heap.size, 3, none⟩ = some (.int .i64 1) := cell_of_row w1 _ 3 _ _ _ hX1
    have HA : Hid _ := hA
    obtain ⟨i0, hi, hz⟩ := Option.map_eq_some_iff.1 info_made
    simp only [Prod.mk.injEq] at hz
    obtain ⟨hz0, hz1, hz2⟩ := hz
    clear hA hT hB1 hw1 hb2 hB2 hX1
    generalize w2.heap.size = xp at *
    go_region_law (first
      | (refine step_append_lies _ (by rfl) _ _ _ (by rfl) b 104 i0 _ 4 48 Tryz.underlying98 hi hz0 hz1 hz2 (by rfl) (by decide) (.slice va (l 2).length vc) (l 2).length ((l 2).flatMap mkC) (by rfl) (World.ownsRow.alloc HA.out.row _) ⟨w1.heap.size, 0, none⟩ 1 1 [S fw, S fw, .int .i64 fv, .int .i64 1] (by rfl) (by rfl) (World.news_of_block (heap_alloc_new w1.drew _)) (fun x hx => by simp at hx; rcases hx with rfl | rfl | rfl | rfl <;> rfl) (by decide) (by unfold maxLen; omega) (by omega) (by simp; omega) (w1.heap.size + 1) (by simp) ?_; intro gg cap' w5 hown3 hgrow hat hlt3; obtain ⟨y0, yf0⟩ := HA.out.far _ _ hgrow; have HN : Hid _ := HA.out.put _ ⟨fw, fw, fv, 1⟩ _ _ _ hgrow (by rcases hat with h | h; exact .inl h; right; rw [h, World.size_alloc]; rfl) hown3; clear hown3 hgrow hat))
    all_goals
      go_wp2_with fail
      go_end0
      obtain ⟨⟨v', h1⟩, h2⟩ := HN.out
      exact ⟨rfl, k, 2, v', p1, by rw [if_neg k4, if_neg k7], by rw [HF.out, HV.out]; exact h1, h2⟩
end Go.Proofs.YtfkdailfcmnjlaaGreatDoor

namespace Go.Proofs.YtfkdailfcmnjlaaGreatDoor
open Go Go.RowKit
set_option maxRecDepth 100000
attribute [local go_sem ↓] Go.wp_at_zero Go.wp_at_succ

set_option maxHeartbeats 4000000 in
theorem one_truth {b p : Nat} {w : World} {v : Nat → Value} {l : Nat → List Mk} {c : Scn} {n : Int} (hn : In64 n) (hT : TI b w p v l) (hb : b ≤ w.heap.size) (hl : (l 2).length ≤ 1000) :
    Calls Tryz.prog 37 #[.pointer (some ⟨p, 0, none⟩), .agg (scC c), .int .i64 2, .int .i64 n] w fun e w' => e = .returned (.tuple #[]) ∧ ∃ (k : Nat) (v' : Nat → Value), k < 2 ∧ TI b w' p v' (upd l 2 (l 2 ++ [⟨[wFalse, wTrue].getD k [], [wFalse, wTrue].getD k [], k, 1⟩])) ∧ Below b w w' := by
  have W1 := fun w => pickN_any hn (n := 2) (by decide) (by decide) w
  have p1 := pickN_lt n (n := 2) (by decide)
  generalize pickN n 2 = k at *
  unfold scC
  obtain ⟨i0, hi, hz⟩ := Option.map_eq_some_iff.1 info_made
  simp only [Prod.mk.injEq] at hz
  obtain ⟨hz0, hz1, hz2⟩ := hz
  have hk : k = 0 ∨ k = 1 := by omega
  rcases hk with rfl | rfl
  · go_enter Tryz.func37, Tryz.ntmps37
    go_upto_region 22 with (first
      | (go_at_call 36; refine (W1 _).mono ?_; rintro e w' ⟨rfl, rfl⟩))
    go_name_world w1 hw1
    have hB1 : Below w.heap.size w w1 := by rw [← hw1]; first | exact ((Below.refl _ _).alloc (Nat.le_refl _) _).alloc (by simp) _ | exact (((Below.refl _ _).alloc (Nat.le_refl _) _).alloc (by simp) _).drew | exact (((Below.refl _ _).alloc (Nat.le_refl _) _).drew).alloc (by simp) _
    have hwb : b ≤ w1.heap.size := by have := hB1.size; omega
    obtain ⟨va, vc, hA⟩ := hT.ready hb hB1.drew (j := 2) (by decide)
    have t0 : w1.cell? ⟨p, 2, none⟩ = some (.slice va (l 2).length vc) := hA.cell
    have pa : p < w1.heap.size := World.block_lt_of_cell? w1 _ t0
    have pb : p ≠ w1.heap.size := by omega
    have pc : w1.heap.size ≠ p := by omega
    have HA : Hid _ := hA
    clear hA hT hB1 hw1
    go_region_law (first
      | (refine step_append_lies _ (by rfl) _ _ _ (by rfl) b 104 i0 _ 4 48 Tryz.underlying98 hi hz0 hz1 hz2 (by rfl) (by decide) (.slice va (l 2).length vc) (l 2).length ((l 2).flatMap mkC) (by rfl) (World.ownsRow.alloc HA.out.row _) ⟨w1.heap.size, 0, none⟩ 1 1 [S [102, 97, 108, 115, 101], S [102, 97, 108, 115, 101], .int .i64 0, .int .i64 1] (by rfl) (by rfl) (World.news_of_block (heap_alloc_new w1.drew _)) (fun x hx => by simp at hx; rcases hx with rfl | rfl | rfl | rfl <;> rfl) (by decide) (by unfold maxLen; omega) (by omega) (by simp; omega) (w1.heap.size + 1) (by simp) ?_; intro gg cap' w5 hown3 hgrow hat hlt3; obtain ⟨y0, yf0⟩ := HA.out.far _ _ hgrow; have HN : Hid _ := HA.out.put _ ⟨[102, 97, 108, 115, 101], [102, 97, 108, 115, 101], 0, 1⟩ _ _ _ hgrow (by rcases hat with h | h; exact .inl h; right; rw [h, World.size_alloc]; rfl) hown3; clear hown3 hgrow hat)
      | (go_simp; go_at_call 36; refine (W1 _).mono ?_; rintro e w' ⟨rfl, rfl⟩; dsimp only))
    all_goals
      go_wp2_with fail
      go_end0
      obtain ⟨⟨v', h1⟩, h2⟩ := HN.out
      exact ⟨rfl, 0, v', by omega, h1, h2⟩
  · go_enter Tryz.func37, Tryz.ntmps37
    go_upto_region 22 with (first
      | (go_at_call 36; refine (W1 _).mono ?_; rintro e w' ⟨rfl, rfl⟩))
    go_name_world w1 hw1
    have hB1 : Below w.heap.size w w1 := by rw [← hw1]; first | exact ((Below.refl _ _).alloc (Nat.le_refl _) _).alloc (by simp) _ | exact (((Below.refl _ _).alloc (Nat.le_refl _) _).alloc (by simp) _).drew | exact (((Below.refl _ _).alloc (Nat.le_refl _) _).drew).alloc (by simp) _
    have hwb : b ≤ w1.heap.size := by have := hB1.size; omega
    obtain ⟨va, vc, hA⟩ := hT.ready hb hB1.drew (j := 2) (by decide)
    have t0 : w1.cell? ⟨p, 2, none⟩ = some (.slice va (l 2).length vc) := hA.cell
    have pa : p < w1.heap.size := World.block_lt_of_cell? w1 _ t0
    have pb : p ≠ w1.heap.size := by omega
    have pc : w1.heap.size ≠ p := by omega
    have HA : Hid _ := hA
    clear hA hT hB1 hw1
    go_region_law (first
      | (refine step_append_lies _ (by rfl) _ _ _ (by rfl) b 104 i0 _ 4 48 Tryz.underlying98 hi hz0 hz1 hz2 (by rfl) (by decide) (.slice va (l 2).length vc) (l 2).length ((l 2).flatMap mkC) (by rfl) (World.ownsRow.alloc HA.out.row _) ⟨w1.heap.size, 0, none⟩ 1 1 [S [116, 114, 117, 101], S [116, 114, 117, 101], .int .i64 1, .int .i64 1] (by rfl) (by rfl) (World.news_of_block (heap_alloc_new w1.drew _)) (fun x hx => by simp at hx; rcases hx with rfl | rfl | rfl | rfl <;> rfl) (by decide) (by unfold maxLen; omega) (by omega) (by simp; omega) (w1.heap.size + 1) (by simp) ?_; intro gg cap' w5 hown3 hgrow hat hlt3; obtain ⟨y0, yf0⟩ := HA.out.far _ _ hgrow; have HN : Hid _ := HA.out.put _ ⟨[116, 114, 117, 101], [116, 114, 117, 101], 1, 1⟩ _ _ _ hgrow (by rcases hat with h | h; exact .inl h; right; rw [h, World.size_alloc]; rfl) hown3; clear hown3 hgrow hat)
      | (go_simp; go_at_call 36; refine (W1 _).mono ?_; rintro e w' ⟨rfl, rfl⟩; dsimp only))
    all_goals
      go_wp2_with fail
      go_end0
      obtain ⟨⟨v', h1⟩, h2⟩ := HN.out
      exact ⟨rfl, 1, v', by omega, h1, h2⟩
end Go.Proofs.YtfkdailfcmnjlaaGreatDoor

namespace Go.Proofs.YtfkdailfcmnjlaaGreatDoor
open Go Go.RowKit
set_option maxRecDepth 100000

theorem lvA_in {c : Scn} (hc : ScnIn c) (k : Nat) : In64 (lvA c k) := by
  unfold lvA; split
  · exact hc.l0
  · split
    · exact hc.l1
    · exact hc.l2
theorem lvV_in {c : Scn} (hc : ScnIn c) (n : Int) : In64 (lvV c n) := by
  unfold lvV; split
  · exact lvA_in hc _
  · split
    · unfold In64; omega
    · exact hc.df
theorem knownI_in (x : Int) : In64 (knownI x) := by unfold knownI In64; split <;> omega
theorem isV_in {c : Scn} (n : Int) : In64 (isV c n) := by
  unfold isV; split
  · exact knownI_in _
  · split <;> (unfold In64; omega)
theorem has_num {x : Int} (h : In64 x) : Has 110 x := ⟨h, fun e => by cases e⟩
theorem has_mem {x : Int} (h : In64 x) : Has 109 x := ⟨h, fun e => by cases e⟩
/-- A condition of what a scene tells. -/
theorem mk_field {c : Scn} (hc : ScnIn c) {k : Nat} (hk : k < 9) : MkOK (scF c) (tyJ (if k < 4 then 0 else if k < 7 then 1 else 2)) ⟨kFields.getD k [], kFields.getD k [], (scF c).getD k 0, 1⟩ := by
  have h9 : k = 0 ∨ k = 1 ∨ k = 2 ∨ k = 3 ∨ k = 4 ∨ k = 5 ∨ k = 6 ∨ k = 7 ∨ k = 8 := by omega
  have hm : kFields.getD k [] ∈ leafWs := by rcases h9 with rfl | rfl | rfl | rfl | rfl | rfl | rfl | rfl | rfl <;> decide
  have ht : mTy (kFields.getD k []) = tyJ (if k < 4 then 0 else if k < 7 then 1 else 2) := by rcases h9 with rfl | rfl | rfl | rfl | rfl | rfl | rfl | rfl | rfl <;> decide
  have hi : idx kFields (kFields.getD k []) = k := by rcases h9 with rfl | rfl | rfl | rfl | rfl | rfl | rfl | rfl | rfl <;> decide
  have hh : Has (mTy (kFields.getD k [])) ((scF c).getD k 0) := by
    rcases h9 with rfl | rfl | rfl | rfl | rfl | rfl | rfl | rfl | rfl
    · exact has_num (lvV_in hc _)
    · exact has_num (lvV_in hc _)
    · exact has_num hc.nd
    · exact has_num hc.wh
    · exact has_mem (isV_in _)
    · exact has_mem (isV_in _)
    · exact has_mem (knownI_in _)
    · exact has_truth _ _
    · exact has_truth _ _
  have := mk_word (fl := scF c) hm (v := (scF c).getD k 0) (by rw [hi, if_pos (by omega)]; rfl) hh
  rw [ht] at this
  exact this
theorem mk_member {fl : List Int} {k : Nat} (hk : k < 5) : MkOK fl 109 ⟨kMembers.getD k [], kMembers.getD k [], k, 1⟩ := by
  have h5 : k = 0 ∨ k = 1 ∨ k = 2 ∨ k = 3 ∨ k = 4 := by omega
  have hm : kMembers.getD k [] ∈ leafWs := by rcases h5 with rfl | rfl | rfl | rfl | rfl <;> decide
  have ht : mTy (kMembers.getD k []) = 109 := by rcases h5 with rfl | rfl | rfl | rfl | rfl <;> decide
  have hi : ¬ 0 ≤ idx kFields (kMembers.getD k []) := by rcases h5 with rfl | rfl | rfl | rfl | rfl <;> decide
  have hj : idx kMembers (kMembers.getD k []) = k := by rcases h5 with rfl | rfl | rfl | rfl | rfl <;> decide
  have := mk_word (fl := fl) hm (v := (k : Int)) (by rw [if_neg hi, hj, if_pos (by omega)]) (by rw [ht]; exact has_mem (by unfold In64; omega))
  rw [ht] at this
  exact this
theorem mk_truth {fl : List Int} {k : Nat} (hk : k < 2) : MkOK fl 116 ⟨[wFalse, wTrue].getD k [], [wFalse, wTrue].getD k [], k, 1⟩ := by
  have h2 : k = 0 ∨ k = 1 := by omega
  rcases h2 with rfl | rfl
  · exact mk_word (fl := fl) (x := wFalse) (by decide) (v := 0) (by rfl) (has_truth 116 false)
  · exact mk_word (fl := fl) (x := wTrue) (by decide) (v := 1) (by rfl) (has_truth 116 true)
theorem upd_len {l : Nat → List Mk} {j : Nat} (m : Mk) : ∀ i, i < 3 → (upd l j (l j ++ [m]) i).length ≤ (l i).length + 1 := fun i _ => by
  by_cases e : i = j
  · subst e; rw [upd_same]; simp
  · rw [upd_other _ e]; omega
/-- What making one more leaves. -/
def MadeOut (c : Scn) (b p : Nat) (w : World) (l : Nat → List Mk) (e : Ending) (w' : World) : Prop := e = .returned (.tuple #[]) ∧ ∃ (v' : Nat → Value) (l' : Nat → List Mk), TI b w' p v' l' ∧ GoodL (scF c) l' ∧ (∀ j, j < 3 → (l' j).length ≤ (l j).length + 1) ∧ Below b w w'
theorem one_any {b p : Nat} {w : World} {v : Nat → Value} {l : Nat → List Mk} {c : Scn} (hc : ScnIn c) {n : Int} (hn : In64 n) {kd : Nat} (h5 : kd ≤ 5) (hT : TI b w p v l) (hb : b ≤ w.heap.size) (hg : GoodL (scF c) l) (hl : ∀ j, j < 3 → (l j).length ≤ 1000) :
    Calls Tryz.prog 37 #[.pointer (some ⟨p, 0, none⟩), .agg (scC c), .int .i64 kd, .int .i64 n] w (MadeOut c b p w l) := by
  have h : kd = 0 ∨ kd = 1 ∨ kd = 2 ∨ 3 ≤ kd := by omega
  rcases h with rfl | rfl | rfl | h3
  · refine (one_num (c := c) hn hT hb (hl 0 (by decide))).mono ?_
    rintro e w' ⟨rfl, k, v', hk, h1, h2⟩
    exact ⟨rfl, v', _, h1, hg.put (mk_num hk), upd_len _, h2⟩
  · refine (one_mem (c := c) hn hT hb (hl 1 (by decide))).mono ?_
    rintro e w' ⟨rfl, k, v', hk, h1, h2⟩
    exact ⟨rfl, v', _, h1, hg.put (mk_member hk), upd_len _, h2⟩
  · refine (one_truth (c := c) hn hT hb (hl 2 (by decide))).mono ?_
    rintro e w' ⟨rfl, k, v', hk, h1, h2⟩
    exact ⟨rfl, v', _, h1, hg.put (mk_truth hk), upd_len _, h2⟩
  · refine (one_field hc hn h3 h5 hT hb hl).mono ?_
    rintro e w' ⟨rfl, k, j, v', hk, rfl, h1, h2⟩
    exact ⟨rfl, v', _, h1, hg.put (mk_field hc hk), upd_len _, h2⟩
end Go.Proofs.YtfkdailfcmnjlaaGreatDoor

namespace Go.Proofs.YtfkdailfcmnjlaaGreatDoor
open Go Go.RowKit
set_option maxRecDepth 100000
attribute [local go_sem ↓] Go.wp_at_zero Go.wp_at_succ

/-- A made lies at a block. -/
def MkAt (w : World) (g : Nat) (m : Mk) : Prop := w.heap[g]? = some (.cells #[S m.text, S m.bare, .int .i64 m.told, .int .i64 (m.deep : Nat)] 104 (0, 0))
theorem mk_new {W : World} {m : Mk} {g : Nat} (h : g = W.heap.size) : MkAt (W.alloc (.cells #[S m.text, S m.bare, .int .i64 m.told, .int .i64 (m.deep : Nat)] 104)) g m := by
  subst h; exact heap_alloc_new W _
theorem mk_old {W : World} {o : Obj} {m : Mk} {g : Nat} (h : MkAt W g m) : MkAt (W.alloc o) g m := (Below.heap_alloc W o g (lt_of_get h)).trans h
theorem mk_drew {W : World} {m : Mk} {g : Nat} (h : MkAt W g m) : MkAt W.drew g m := h
/-- A region of a function's code, by its number. -/
def regIn (k : Nat) : Code → Option Code
  | .region n ops d => if n = k then some (.region n ops d) else none
  | .loop c => regIn k c
  | .seq a b => match regIn k a with
    | some c => some c
    | none => regIn k b
  | .block _ c => regIn k c
  | .scope c => regIn k c
  | .cond _ a b => match regIn k a with
    | some c => some c
    | none => regIn k b
  | _ => none
/-- A post that wants a normal end alone. -/
def JN (R : Act → World → Prop) : Exit → Act → World → Prop
  | .normal, a, w => R a w
  | _, _, _ => False
set_option maxHeartbeats 8000000 in
set_option maxRecDepth 1000000 in
theorem take_4 {p gz : Nat} {w0 : World} {V : Value} {n : Int} {o A0 B0 : Mk} (c1 c2 c4 c5 c6 c7 c9 c10 c11 c12 c13 c14 c15 c16 c17 c18 c19 c20 c21 c22 c23 c24 c25 c26 c27 c28 c29 c30 c31 c32 c33 c34 c35 c36 c37 c38 c39 c40 c41 c42 c43 c44 c45 c46 c47 c48 c49 c50 c51 c52 c53 c54 c55 c56 c57 c58 c59 c60 c61 c62 c63 c64 c65 c66 c67 c68 c69 c70 c71 c72 c73 c74 c75 c76 c77 c78 c79 c80 c81 c82 c83 c84 c85 c86 c87 c88 c89 c90 c91 c92 c93 c94 c95 c96 c97 c98 c99 c100 c101 c102 c103 c104 c105 c106 c107 c108 c109 c110 c111 c112 c113 c114 c115 c116 c117 c118 c119 c120 c121 c122 c123 c124 c125 c126 c127 c128 c129 c130 c131 c132 c133 c134 c135 c136 c137 c138 c139 c140 c141 c142 c143 c144 c145 c146 c147 c148 c149 c150 c151 c152 c153 c154 c155 c156 c157 c158 c159 c160 c161 c162 c163 c164 c165 c166 c167 c168 c169 c170 c171 c172 c173 c174 c175 c176 c177 c178 c179 c180 c181 c182 c183 c184 c185 c186 c187 c188 c189 c190 c191 c192 c193 c194 c195 c196 c197 c198 c199 c200 c201 c202 c203 c204 c205 c206 c207 c208 c209 c210 c211 c212 c213 c214 c215 c216 c217 c218 c219 c220 c221 c222 c223 c224 : Value) (hn3 : In64 (n.tdiv 3)) (hz : MkAt w0 gz o) (ht : w0.cell? ⟨p, 0, none⟩ = some V)
    (WA : ∀ W, Below w0.heap.size w0 W → Calls Tryz.prog 72 #[V, .int .i64 n, mkV o] W fun e w' => e = .returned (mkV A0) ∧ w' = (W.alloc (mkO o)).alloc (mkO A0))
    (WB : ∀ W, Below w0.heap.size w0 W → Calls Tryz.prog 72 #[V, .int .i64 (n.tdiv 3), mkV o] W fun e w' => e = .returned (mkV B0) ∧ w' = (W.alloc (mkO o)).alloc (mkO B0)) :
    Code.wp Tryz.prog ((Tryz.f38.body.bind (regIn 4)).getD .skip) (JN (fun a' w' => ∃ (ga gb : Nat) (u21 u22 u23 u24 u25 u26 u27 u28 u29 u30 u31 u32 u33 u34 u35 : Value), a' = ⟨#[.pointer (some ⟨p, 0, none⟩), c1, c2, .int .i64 n, c4, c5, c6, c7, .pointer (some ⟨gz, 0, none⟩), c9, c10, .pointer (some ⟨ga, 0, none⟩), .pointer (some ⟨gb, 0, none⟩), c13, c14, c15, c16, c17, c18, c19, c20, u21, u22, u23, u24, u25, u26, u27, u28, u29, u30, u31, u32, u33, u34, u35, c36, c37, c38, c39, c40, c41, c42, c43, c44, c45, c46, c47, c48, c49, c50, c51, c52, c53, c54, c55, c56, c57, c58, c59, c60, c61, c62, c63, c64, c65, c66, c67, c68, c69, c70, c71, c72, c73, c74, c75, c76, c77, c78, c79, c80, c81, c82, c83, c84, c85, c86, c87, c88, c89, c90, c91, c92, c93, c94, c95, c96, c97, c98, c99, c100, c101, c102, c103, c104, c105, c106, c107, c108, c109, c110, c111, c112, c113, c114, c115, c116, c117, c118, c119, c120, c121, c122, c123, c124, c125, c126, c127, c128, c129, c130, c131, c132, c133, c134, c135, c136, c137, c138, c139, c140, c141, c142, c143, c144, c145, c146, c147, c148, c149, c150, c151, c152, c153, c154, c155, c156, c157, c158, c159, c160, c161, c162, c163, c164, c165, c166, c167, c168, c169, c170, c171, c172, c173, c174, c175, c176, c177, c178, c179, c180, c181, c182, c183, c184, c185, c186, c187, c188, c189, c190, c191, c192, c193, c194, c195, c196, c197, c198, c199, c200, c201, c202, c203, c204, c205, c206, c207, c208, c209, c210, c211, c212, c213, c214, c215, c216, c217, c218, c219, c220, c221, c222, c223, c224], []⟩ ∧ MkAt w' ga A0 ∧ MkAt w' gb B0 ∧ Below w0.heap.size w0 w')) ⟨#[.pointer (some ⟨p, 0, none⟩), c1, c2, .int .i64 n, c4, c5, c6, c7, .pointer (some ⟨gz, 0, none⟩), c9, c10, c11, c12, c13, c14, c15, c16, c17, c18, c19, c20, c21, c22, c23, c24, c25, c26, c27, c28, c29, c30, c31, c32, c33, c34, c35, c36, c37, c38, c39, c40, c41, c42, c43, c44, c45, c46, c47, c48, c49, c50, c51, c52, c53, c54, c55, c56, c57, c58, c59, c60, c61, c62, c63, c64, c65, c66, c67, c68, c69, c70, c71, c72, c73, c74, c75, c76, c77, c78, c79, c80, c81, c82, c83, c84, c85, c86, c87, c88, c89, c90, c91, c92, c93, c94, c95, c96, c97, c98, c99, c100, c101, c102, c103, c104, c105, c106, c107, c108, c109, c110, c111, c112, c113, c114, c115, c116, c117, c118, c119, c120, c121, c122, c123, c124, c125, c126, c127, c128, c129, c130, c131, c132, c133, c134, c135, c136, c137, c138, c139, c140, c141, c142, c143, c144, c145, c146, c147, c148, c149, c150, c151, c152, c153, c154, c155, c156, c157, c158, c159, c160, c161, c162, c163, c164, c165, c166, c167, c168, c169, c170, c171, c172, c173, c174, c175, c176, c177, c178, c179, c180, c181, c182, c183, c184, c185, c186, c187, c188, c189, c190, c191, c192, c193, c194, c195, c196, c197, c198, c199, c200, c201, c202, c203, c204, c205, c206, c207, c208, c209, c210, c211, c212, c213, c214, c215, c216, c217, c218, c219, c220, c221, c222, c223, c224], []⟩ w0 := by
  have hp0 : p < w0.heap.size := World.block_lt_of_cell? w0 _ ht
  have hz0 : gz < w0.heap.size := lt_of_get hz
  have hS0 : Below w0.heap.size w0 w0 := Below.refl _ _
  have E0 : ∀ W, Below w0.heap.size w0 W → W.cell? ⟨p, 0, none⟩ = some V := fun W h => by rw [h.cell (p := ⟨p, 0, none⟩) hp0]; exact ht
  have Z0 : ∀ W, Below w0.heap.size w0 W → W.cell? ⟨gz, 0, none⟩ = some (S o.text) := fun W h => by rw [h.cell (p := ⟨gz, 0, none⟩) hz0]; exact cell_of_row w0 _ 0 _ _ _ hz
  have Z1 : ∀ W, Below w0.heap.size w0 W → W.cell? ⟨gz, 1, none⟩ = some (S o.bare) := fun W h => by rw [h.cell (p := ⟨gz, 1, none⟩) hz0]; exact cell_of_row w0 _ 1 _ _ _ hz
  have Z2 : ∀ W, Below w0.heap.size w0 W → W.cell? ⟨gz, 2, none⟩ = some (.int .i64 o.told) := fun W h => by rw [h.cell (p := ⟨gz, 2, none⟩) hz0]; exact cell_of_row w0 _ 2 _ _ _ hz
  have Z3 : ∀ W, Below w0.heap.size w0 W → W.cell? ⟨gz, 3, none⟩ = some (.int .i64 (o.deep : Nat)) := fun W h => by rw [h.cell (p := ⟨gz, 3, none⟩) hz0]; exact cell_of_row w0 _ 3 _ _ _ hz
  have KD : Hid (∀ W : World, Below w0.heap.size w0 W → Below w0.heap.size w0 W.drew) := fun W h => h.drew
  have KA : Hid (∀ (W : World) (o : Obj), Below w0.heap.size w0 W → Below w0.heap.size w0 (W.alloc o)) := fun W o h => h.alloc h.size _
  have KS : Hid (∀ (W : World) (a : Addr) (u : Value), w0.heap.size ≤ a.block → Below w0.heap.size w0 W → Below w0.heap.size w0 (W.setCell a u)) := fun W a u h h' => h'.setCell h _
  have hq3 : IntKind.i64.wrap (n.tdiv 3) = n.tdiv 3 := by unfold In64 at hn3; rw [IntKind.wrap_i64]; omega
  unfold mkV at WA WB
  clear hz ht
  conv => arg 2; whnf
  go_region_held3 (fun W => Below w0.heap.size w0 W) (first | assumption | (repeat' first | exact hS0 | with_reducible assumption | with_reducible apply KD.out | with_reducible apply KA.out | (with_reducible refine KS.out _ _ _ (by simp; omega) ?_)))
    (first
      | (go_at_call 72; (first | with_reducible refine Calls.mono (WA _ (by assumption)) ?_ | with_reducible refine Calls.mono (WB _ (by assumption)) ?_); rintro e w' ⟨rfl, rfl⟩))
  all_goals
    rename_i hHeld
    exact ⟨_, _, _, _, _, _, _, _, _, _, _, _, _, _, _, _, _, rfl, mk_drew (by repeat' first | (refine mk_new ?_; simp; done) | refine mk_old ?_), mk_drew (by repeat' first | (refine mk_new ?_; simp; done) | refine mk_old ?_), hHeld⟩
end Go.Proofs.YtfkdailfcmnjlaaGreatDoor

namespace Go.Proofs.YtfkdailfcmnjlaaGreatDoor
open Go Go.RowKit
set_option maxRecDepth 100000

theorem last_ok {fl : List Int} {l : Nat → List Mk} (hg : GoodL fl l) {j : Nat} (hj : j < 3) (n : Int) {o : Mk} (ho : MkOK fl (tyJ j) o) : MkOK fl (tyJ j) (lastM (l j) n o) := by
  unfold lastM
  by_cases h : (l j).length = 0
  · rw [if_pos h]; exact ho
  · rw [if_neg h]
    have hp := pickN_lt n (n := (l j).length) (by omega)
    have hi : (l j).length - 1 - pickN n (l j).length < (l j).length := by omega
    rw [List.getD_eq_getElem?_getD, List.getElem?_eq_getElem hi]
    exact hg j hj _ (List.getElem_mem hi)
theorem zero_ok (fl : List Int) : MkOK fl 110 ⟨[48], [48, 48], 0, 1⟩ := mk_num (fl := fl) (k := 0) (by decide)
theorem none_ok (fl : List Int) : MkOK fl 109 ⟨[110, 111, 110, 101], [110, 111, 110, 101], 0, 1⟩ := mk_member (fl := fl) (k := 0) (by decide)
theorem yes_ok (fl : List Int) : MkOK fl 116 ⟨wTrue, wTrue, 1, 1⟩ := mk_truth (fl := fl) (k := 1) (by decide)
/-- What each kind makes. -/
def gM (kd : Nat) (a b m k x y : Mk) : Mk :=
  if kd = 0 then bothM a [43] b (clampI (a.told + b.told)) else if kd = 1 then bothM a [45] b (clampI (a.told - b.told))
  else if kd = 2 then bothM a [60] b (truthI (decide (a.told < b.told))) else if kd = 3 then bothM a [60, 61] b (truthI (decide (a.told ≤ b.told)))
  else if kd = 4 then bothM a [61] b (truthI (a.told == b.told)) else if kd = 5 then bothM m [61] k (truthI (m.told == k.told))
  else if kd = 6 then bothM x [97, 110, 100] y (truthI (x.told == 1 && y.told == 1)) else if kd = 7 then bothM x [111, 114] y (truthI (x.told == 1 || y.told == 1))
  else if kd = 8 then ⟨wsNot ++ x.text ++ [41], [110, 111, 116, 40] ++ x.bare ++ [41], 1 - x.told, x.deep + 1⟩ else ifM x a b
def gJ (kd : Nat) : Nat := if kd = 0 ∨ kd = 1 ∨ 8 < kd then 0 else 2
theorem both_ok {fl : List Int} {ta tb : UInt8} {a b : Mk} {w : Nat × List UInt8} (ha : MkOK fl ta a) (hb : MkOK fl tb b) (hw : w ∈ twoWs) (hty : ∀ xs its, nTy xs its ⟨w.1, w.2, 0⟩ [ta, tb] = sTy w.2) (hh : Has (sTy w.2) (twoI w.2 a.told b.told))
    (hd : (bothM a w.2 b (twoI w.2 a.told b.told)).deep ≤ 12) (ht : (bothM a w.2 b (twoI w.2 a.told b.told)).text.length ≤ 140) (hbr : (bothM a w.2 b (twoI w.2 a.told b.told)).bare.length ≤ 140) : MkOK fl (sTy w.2) (bothM a w.2 b (twoI w.2 a.told b.told)) := by
  unfold bothM at *
  refine mk_both ha hb hw hty hd ?_ ?_ hh
  · simp at ht; omega
  · simp at hbr; omega
theorem gM_ok {fl : List Int} {kd : Nat} {a b m k x y : Mk} (ha : MkOK fl 110 a) (hb : MkOK fl 110 b) (hm : MkOK fl 109 m) (hk : MkOK fl 109 k) (hx : MkOK fl 116 x) (hy : MkOK fl 116 y)
    (hd : (gM kd a b m k x y).deep ≤ 12) (ht : (gM kd a b m k x y).text.length ≤ 140) (hbr : (gM kd a b m k x y).bare.length ≤ 140) : MkOK fl (tyJ (gJ kd)) (gM kd a b m k x y) := by
  have h9 : kd = 0 ∨ kd = 1 ∨ kd = 2 ∨ kd = 3 ∨ kd = 4 ∨ kd = 5 ∨ kd = 6 ∨ kd = 7 ∨ kd = 8 ∨ 9 ≤ kd := by omega
  rcases h9 with rfl | rfl | rfl | rfl | rfl | rfl | rfl | rfl | rfl | h9
  · exact both_ok (w := (115, [43])) ha hb (by decide) (fun xs its => rfl) (has_num (clamp_in _)) hd ht hbr
  · exact both_ok (w := (115, [45])) ha hb (by decide) (fun xs its => rfl) (has_num (clamp_in _)) hd ht hbr
  · exact both_ok (w := (115, [60])) ha hb (by decide) (fun xs its => rfl) (has_truth _ _) hd ht hbr
  · exact both_ok (w := (115, [60, 61])) ha hb (by decide) (fun xs its => rfl) (has_truth _ _) hd ht hbr
  · exact both_ok (w := (115, [61])) ha hb (by decide) (fun xs its => rfl) (has_truth _ _) hd ht hbr
  · exact both_ok (w := (115, [61])) hm hk (by decide) (fun xs its => rfl) (has_truth _ _) hd ht hbr
  · exact both_ok (w := (107, [97, 110, 100])) hx hy (by decide) (fun xs its => rfl) (has_truth _ _) hd ht hbr
  · exact both_ok (w := (107, [111, 114])) hx hy (by decide) (fun xs its => rfl) (has_truth _ _) hd ht hbr
  · have e : gM 8 a b m k x y = ⟨wsNot ++ x.text ++ [41], [110, 111, 116, 40] ++ x.bare ++ [41], 1 - x.told, x.deep + 1⟩ := rfl
    rw [e] at hd ht hbr ⊢
    refine mk_not hx hd ?_ ?_
    · simp [wsNot] at ht; omega
    · simp at hbr; omega
  · have e : gM kd a b m k x y = ifM x a b := by
      unfold gM
      rw [if_neg (by omega), if_neg (by omega), if_neg (by omega), if_neg (by omega), if_neg (by omega), if_neg (by omega), if_neg (by omega), if_neg (by omega), if_neg (by omega)]
    have ej : gJ kd = 0 := by unfold gJ; rw [if_pos (by omega)]
    rw [e] at hd ht hbr ⊢
    rw [ej]
    unfold ifM at *
    refine mk_if hx ha hb hd ?_ ?_
    · simp [wsIf, wsThen, wsElse] at ht; omega
    · simp at hbr; omega
end Go.Proofs.YtfkdailfcmnjlaaGreatDoor

namespace Go.Proofs.YtfkdailfcmnjlaaGreatDoor
open Go Go.RowKit
set_option maxRecDepth 100000
attribute [local go_sem ↓] Go.wp_at_zero Go.wp_at_succ

/-- The first block of a function's code. -/
def blkIn : Code → Option Code
  | .loop c => blkIn c
  | .seq a b => match blkIn a with
    | some c => some c
    | none => blkIn b
  | .block n c => some (.block n c)
  | .scope c => blkIn c
  | .cond _ a b => match blkIn a with
    | some c => some c
    | none => blkIn b
  | _ => none
/-- What is made is small. -/
def Small (m : Mk) : Prop := m.text.length ≤ 1000 ∧ m.bare.length ≤ 1000 ∧ m.deep ≤ 100 ∧ In64 m.told
theorem MkOK.small {fl : List Int} {ty : UInt8} {m : Mk} (h : MkOK fl ty m) : Small m := by
  have h1 := h.text
  have h2 := h.bare
  have h3 := h.deep
  exact ⟨by omega, by omega, by omega, h.told.1⟩
/-- Those that are taken lie in memory, and a room for what is made. -/
structure SwI (w : World) (ga gb gm gk gx gy gz : Nat) (a b m k x y : Mk) : Prop where
  oa : MkAt w ga a
  ob : MkAt w gb b
  om : MkAt w gm m
  ok : MkAt w gk k
  ox : MkAt w gx x
  oy : MkAt w gy y
  oz : MkAt w gz noMk
  la : ga < gz
  lb : gb < gz
  lm : gm < gz
  lk : gk < gz
  lx : gx < gz
  ly : gy < gz
  sa : Small a
  sb : Small b
  sm : Small m
  sk : Small k
  sx : Small x
  sy : Small y
  tx : x.told = 0 ∨ x.told = 1
  ty : y.told = 0 ∨ y.told = 1
theorem mk_cells {w : World} {g : Nat} {m : Mk} (h : MkAt w g m) : w.cell? ⟨g, 0, none⟩ = some (S m.text) ∧ w.cell? ⟨g, 1, none⟩ = some (S m.bare) ∧ w.cell? ⟨g, 2, none⟩ = some (.int .i64 m.told) ∧ w.cell? ⟨g, 3, none⟩ = some (.int .i64 (m.deep : Nat)) :=
  ⟨cell_of_row w _ 0 _ _ _ h, cell_of_row w _ 1 _ _ _ h, cell_of_row w _ 2 _ _ _ h, cell_of_row w _ 3 _ _ _ h⟩
theorem mk_free {w : World} {g : Nat} {m : Mk} (h : MkAt w g m) : w.frozen? ⟨g, 0, none⟩ = false ∧ w.frozen? ⟨g, 1, none⟩ = false ∧ w.frozen? ⟨g, 2, none⟩ = false ∧ w.frozen? ⟨g, 3, none⟩ = false := by
  unfold MkAt at h
  exact ⟨by simp [World.frozen?, h], by simp [World.frozen?, h], by simp [World.frozen?, h], by simp [World.frozen?, h]⟩
theorem mk_below {w w' : World} {g B : Nat} {m : Mk} (h : MkAt w g m) (hb : Below B w w') (hg : g < B) : MkAt w' g m := (hb.block _ hg).trans h
theorem mk_set {w : World} {g : Nat} {m r : Mk} (h : MkAt w g m) : MkAt ((((w.setCell ⟨g, 0, none⟩ (S r.text)).setCell ⟨g, 1, none⟩ (S r.bare)).setCell ⟨g, 2, none⟩ (.int .i64 r.told)).setCell ⟨g, 3, none⟩ (.int .i64 (r.deep : Nat))) g r := by
  have h1 := heap_setCell_same w g 0 _ _ (S r.text) h
  have h2 := heap_setCell_same _ g 1 _ _ (S r.bare) h1
  have h3 := heap_setCell_same _ g 2 _ _ (.int .i64 r.told) h2
  exact heap_setCell_same _ g 3 _ _ (.int .i64 (r.deep : Nat)) h3
theorem set_below {w0 w : World} {g : Nat} {r : Mk} (h : Below g w0 w) : Below g w0 ((((w.setCell ⟨g, 0, none⟩ (S r.text)).setCell ⟨g, 1, none⟩ (S r.bare)).setCell ⟨g, 2, none⟩ (.int .i64 r.told)).setCell ⟨g, 3, none⟩ (.int .i64 (r.deep : Nat))) :=
  (((h.setCell (Nat.le_refl _) _).setCell (Nat.le_refl _) _).setCell (Nat.le_refl _) _).setCell (Nat.le_refl _) _
end Go.Proofs.YtfkdailfcmnjlaaGreatDoor
