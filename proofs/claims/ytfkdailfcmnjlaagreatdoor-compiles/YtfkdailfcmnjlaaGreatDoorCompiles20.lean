/-
  The document's fields of an event in a state. The program's level of a user and what a user is to the room. The program's reader: a word that stands alone. The program's reader: 'fork', 'join'; what the method values lead to. The program's reader: 'join'. The program's trees: one part more over two, over one, over three. The program's reader: 'chain'. The program's reader: 'chain' behind a failure; 'pair'. The program's reader: every form behind a failure. The program's reader: brackets.
-/
import Derived.Test.YtfkdailfcmnjlaaGreatDoorCompiles01
import Derived.Test.YtfkdailfcmnjlaaGreatDoorCompiles02
import Derived.Test.YtfkdailfcmnjlaaGreatDoorCompiles04
import Derived.Test.YtfkdailfcmnjlaaGreatDoorCompiles05
import Derived.Test.YtfkdailfcmnjlaaGreatDoorCompiles06
import Derived.Test.YtfkdailfcmnjlaaGreatDoorCompiles07
import Derived.Test.YtfkdailfcmnjlaaGreatDoorCompiles08
import Derived.Test.YtfkdailfcmnjlaaGreatDoorCompiles09
import Derived.Test.YtfkdailfcmnjlaaGreatDoorCompiles10
import Derived.Test.YtfkdailfcmnjlaaGreatDoorCompiles11
import Derived.Test.YtfkdailfcmnjlaaGreatDoorCompiles12
import Derived.Test.YtfkdailfcmnjlaaGreatDoorCompiles13
import Derived.Test.YtfkdailfcmnjlaaGreatDoorCompiles14
import Derived.Test.YtfkdailfcmnjlaaGreatDoorCompiles15
import Derived.Test.YtfkdailfcmnjlaaGreatDoorCompiles16
import Derived.Test.YtfkdailfcmnjlaaGreatDoorCompiles17
import Derived.Test.YtfkdailfcmnjlaaGreatDoorCompiles18
import Derived.Test.YtfkdailfcmnjlaaGreatDoorCompiles19
import Derived.Test.YtfkdailfcmnjlaaGreatDoorLays
import Derived.WalkKit
import Derived.Deep.QuietTactic
import Derived.BigQuiet
import Derived.WalkSpells
import GoSem.Op.String
import Derived.Deep.AppendLies
import Derived.Deep.RegionHeld3
import Derived.Deep.DrawnRows
import Derived.Deep.RegionHeldLaw
import Derived.Deep.RegionLaw
import Derived.Lib.ParseIntBCases
set_option linter.unusedVariables false
set_option linter.unusedSimpArgs false
namespace Go.Proofs.YtfkdailfcmnjlaaGreatDoor
open Go Go.RowKit
set_option maxRecDepth 100000
attribute [local go_sem ↓] Go.wp_at_zero Go.wp_at_succ

/-- A list of users with a number each, at a slice. -/
def PairsAt (v : Value) (ls : List (List UInt8 × Int)) (w : World) : Prop :=
  ls.length ≤ maxLen ∧ ∃ a cap, v = .slice a ls.length cap ∧ ∀ i, i < ls.length → ∃ b o, a = some ⟨b, o, none⟩ ∧ w.cell? ⟨b, o + i * 2, none⟩ = some (S (ls.getD i ([], 0)).1) ∧ w.cell? ⟨b, o + i * 2 + 1, none⟩ = some (.int .i64 (ls.getD i ([], 0)).2) ∧ In64 (ls.getD i ([], 0)).2
theorem PairsAt.below {v : Value} {ls : List (List UInt8 × Int)} {w w' : World} (h : PairsAt v ls w) (hb : Below w.heap.size w w') : PairsAt v ls w' := by
  obtain ⟨h0, a, cap, h1, h2⟩ := h
  refine ⟨h0, a, cap, h1, fun i hi => ?_⟩
  obtain ⟨b, o, e, c0, c1, hn⟩ := h2 i hi
  refine ⟨b, o, e, ?_, ?_, hn⟩
  · rw [hb.cell (p := ⟨b, o + i * 2, none⟩) (World.block_lt_of_cell? w _ c0)]; exact c0
  · rw [hb.cell (p := ⟨b, o + i * 2 + 1, none⟩) (World.block_lt_of_cell? w _ c1)]; exact c1
/-- The first entry of a user counts. -/
def firstI (df : Int) (ls : List (List UInt8 × Int)) (u : List UInt8) : Int := match ls with
  | [] => df
  | x :: r => if x.1 == u then x.2 else firstI df r u
theorem first_step (df : Int) (ls : List (List UInt8 × Int)) (u : List UInt8) (i : Nat) (h : i < ls.length) : firstI df (ls.drop i) u = if (ls.getD i ([], 0)).1 == u then (ls.getD i ([], 0)).2 else firstI df (ls.drop (i + 1)) u := by
  rw [List.drop_eq_getElem_cons h, firstI, List.getD_eq_getElem?_getD, List.getElem?_eq_getElem h]; rfl

set_option maxHeartbeats 4000000 in
theorem level_any {lv mv : Value} {df : Int} {op : Bool} {ls : List (List UInt8 × Int)} (u : List UInt8) (w : World) (h : PairsAt lv ls w) :
    Calls Tryz.prog 83 #[.agg #[lv, .int .i64 df, mv, .bool op], S u] w fun e w' => e = .returned (.int .i64 (firstI df ls u)) ∧ Below w.heap.size w w' := by
  obtain ⟨hm, a, cap, rfl, hc⟩ := h
  unfold maxLen at hm
  have hb := (Below.refl w.heap.size w).alloc (Nat.le_refl _) (.cells #[.slice a ls.length cap, .int .i64 df, mv, .bool op] 50)
  have hx : (w.alloc (.cells #[.slice a ls.length cap, .int .i64 df, mv, .bool op] 50)).heap[w.heap.size]? = some (.cells #[.slice a ls.length cap, .int .i64 df, mv, .bool op] 50 (0, 0)) := heap_alloc_new w _
  have H0 : Hid _ := And.intro hb hx
  have HC : Hid _ := hc
  clear hb hx hc
  go_enter Tryz.func83, Tryz.ntmps83
  go_wp2_with fail
  obtain ⟨hbw, hxw⟩ := H0.out
  clear H0
  generalize hwz : w.alloc (.cells #[.slice a ls.length cap, .int .i64 df, mv, .bool op] 50) = wz at *
  clear hwz
  have q0 := cell_of_row wz w.heap.size 0 _ _ _ hxw
  simp only [List.getElem?_toArray, List.getElem?_cons_zero, List.getElem?_cons_succ] at q0
  have HB : Hid _ := hbw
  go_loop [5, 6] (fun n i => ∃ j, j ≤ ls.length ∧ i = .int .i64 ((j : Int) - 1) ∧ ∃ v, n = .int .i64 v ∧ Hid (v = firstI df (ls.drop j) u)) (fun _ i => (intOf i + 1).toNat)
  case atStart => exact ⟨ls.length, Nat.le_refl _, rfl, df, rfl, by show _ = _; rw [List.drop_length]; rfl⟩
  case round =>
    obtain ⟨j, hj, rfl, v, rfl, HV⟩ := hrel
    by_cases h0 : j = 0
    · subst h0
      go_wp2_with fail
      go_ret
      exact ⟨by rw [HV.out]; rfl, HB.out⟩
    · obtain ⟨q, rfl⟩ : ∃ q, j = q + 1 := ⟨j - 1, by omega⟩
      obtain ⟨b, o, rfl, c0, c1, hn⟩ := HC.out q (by omega)
      have HS : Hid _ := first_step df ls u q (by omega)
      have c0' : wz.cell? ⟨b, o + q * 2, none⟩ = some (S (ls.getD q ([], 0)).1) := by rw [hbw.cell (p := ⟨b, o + q * 2, none⟩) (World.block_lt_of_cell? w _ c0)]; exact c0
      have c1' : wz.cell? ⟨b, o + q * 2 + 1, none⟩ = some (.int .i64 (ls.getD q ([], 0)).2) := by rw [hbw.cell (p := ⟨b, o + q * 2 + 1, none⟩) (World.block_lt_of_cell? w _ c1)]; exact c1
      have ei : ((q + 1 : Nat) : Int) - 1 = (q : Int) := by omega
      have b1 : (q : Int) < (ls.length : Int) := by omega
      rw [ei]
      clear c0 c1 h0 ei
      generalize ls.getD q ([], 0) = x at *
      cases hx : (x.1 == u) with
      | true =>
        have HS2 : Hid (firstI df (ls.drop q) u = x.2) := by show _ = _; rw [HS.out, if_pos hx]
        clear HS
        go_wp2_with fail
        go_round
        case rel => exact ⟨q, by omega, by simp, x.2, rfl, HS2.out.symm⟩
        case measure => simp [intOf]
      | false =>
        have HS2 : Hid (firstI df (ls.drop q) u = v) := by show _ = _; rw [HS.out, if_neg (by rw [hx]; simp), HV.out]
        clear HS
        go_wp2_with fail
        go_round
        case rel => exact ⟨q, by omega, by simp, v, rfl, HS2.out.symm⟩
        case measure => simp [intOf]
/-- What a user is to the room. -/
def firstK (ls : List (List UInt8 × Int)) (u : List UInt8) : Int := match ls with
  | [] => 0
  | x :: r => if x.1 == u then knownI x.2 else firstK r u
theorem firstK_step (ls : List (List UInt8 × Int)) (u : List UInt8) (i : Nat) (h : i < ls.length) : firstK (ls.drop i) u = if (ls.getD i ([], 0)).1 == u then knownI (ls.getD i ([], 0)).2 else firstK (ls.drop (i + 1)) u := by
  rw [List.drop_eq_getElem_cons h, firstK, List.getD_eq_getElem?_getD, List.getElem?_eq_getElem h]; rfl

set_option maxHeartbeats 4000000 in
theorem is_any {lv mv : Value} {df : Int} {op : Bool} {ls : List (List UInt8 × Int)} (u : List UInt8) (w : World) (h : PairsAt mv ls w) :
    Calls Tryz.prog 84 #[.agg #[lv, .int .i64 df, mv, .bool op], S u] w fun e w' => e = .returned (.int .i64 (firstK ls u)) ∧ Below w.heap.size w w' := by
  obtain ⟨hm, a, cap, rfl, hc⟩ := h
  unfold maxLen at hm
  have hb := (Below.refl w.heap.size w).alloc (Nat.le_refl _) (.cells #[lv, .int .i64 df, .slice a ls.length cap, .bool op] 50)
  have hx : (w.alloc (.cells #[lv, .int .i64 df, .slice a ls.length cap, .bool op] 50)).heap[w.heap.size]? = some (.cells #[lv, .int .i64 df, .slice a ls.length cap, .bool op] 50 (0, 0)) := heap_alloc_new w _
  have H0 : Hid _ := And.intro hb hx
  have HC : Hid _ := hc
  clear hb hx hc
  go_enter Tryz.func84, Tryz.ntmps84
  go_wp2_with fail
  obtain ⟨hbw, hxw⟩ := H0.out
  clear H0
  generalize hwz : w.alloc (.cells #[lv, .int .i64 df, .slice a ls.length cap, .bool op] 50) = wz at *
  clear hwz
  have q0 := cell_of_row wz w.heap.size 2 _ _ _ hxw
  simp only [List.getElem?_toArray, List.getElem?_cons_zero, List.getElem?_cons_succ] at q0
  have HB : Hid _ := hbw
  go_loop [5, 6] (fun n i => ∃ j, j ≤ ls.length ∧ i = .int .i64 ((j : Int) - 1) ∧ ∃ v, n = .int .i64 v ∧ Hid (v = firstK (ls.drop j) u)) (fun _ i => (intOf i + 1).toNat)
  case atStart => exact ⟨ls.length, Nat.le_refl _, rfl, 0, rfl, by show _ = _; rw [List.drop_length]; rfl⟩
  case round =>
    obtain ⟨j, hj, rfl, v, rfl, HV⟩ := hrel
    by_cases h0 : j = 0
    · subst h0
      go_wp2_with fail
      go_ret
      exact ⟨by rw [HV.out]; rfl, HB.out⟩
    · obtain ⟨q, rfl⟩ : ∃ q, j = q + 1 := ⟨j - 1, by omega⟩
      obtain ⟨b, o, rfl, c0, c1, hn⟩ := HC.out q (by omega)
      have HS : Hid _ := firstK_step ls u q (by omega)
      have c0' : wz.cell? ⟨b, o + q * 2, none⟩ = some (S (ls.getD q ([], 0)).1) := by rw [hbw.cell (p := ⟨b, o + q * 2, none⟩) (World.block_lt_of_cell? w _ c0)]; exact c0
      have c1' : wz.cell? ⟨b, o + q * 2 + 1, none⟩ = some (.int .i64 (ls.getD q ([], 0)).2) := by rw [hbw.cell (p := ⟨b, o + q * 2 + 1, none⟩) (World.block_lt_of_cell? w _ c1)]; exact c1
      have ei : ((q + 1 : Nat) : Int) - 1 = (q : Int) := by omega
      have b1 : (q : Int) < (ls.length : Int) := by omega
      rw [ei]
      clear c0 c1 h0 ei
      generalize ls.getD q ([], 0) = x at *
      cases hx : (x.1 == u) with
      | true =>
        have HS2 : Hid (firstK (ls.drop q) u = knownI x.2) := by show _ = _; rw [HS.out, if_pos hx]
        have WK := fun W => known_any hn W
        generalize knownI x.2 = kx at *
        clear HS
        go_wp2_with fail
        refine (WK _).mono ?_
        rintro e w5 ⟨rfl, rfl⟩
        clear WK
        go_wp2_with fail
        go_round
        case rel => exact ⟨q, by omega, by simp, kx, rfl, HS2.out.symm⟩
        case measure => simp [intOf]
      | false =>
        have HS2 : Hid (firstK (ls.drop q) u = v) := by show _ = _; rw [HS.out, if_neg (by rw [hx]; simp), HV.out]
        clear HS
        go_wp2_with fail
        go_round
        case rel => exact ⟨q, by omega, by simp, v, rfl, HS2.out.symm⟩
        case measure => simp [intOf]
end Go.Proofs.YtfkdailfcmnjlaaGreatDoor

namespace Go.Proofs.YtfkdailfcmnjlaaGreatDoor
open Go Go.RowKit
set_option maxRecDepth 100000
attribute [local go_sem ↓] Go.wp_at_zero Go.wp_at_succ

set_option maxHeartbeats 4000000 in
theorem plevel_any {lv mv : Value} {df : Int} {op : Bool} {ls : List (List UInt8 × Int)} (u : List UInt8) (w : World) (h : PairsAt lv ls w) :
    Calls Tryz.prog 79 #[.agg #[lv, .int .i64 df, mv, .bool op], S u] w fun e w' => e = .returned (.int .i64 (firstI df ls u)) ∧ Below w.heap.size w w' := by
  obtain ⟨hm, a, cap, rfl, hc⟩ := h
  unfold maxLen at hm
  have hb := (Below.refl w.heap.size w).alloc (Nat.le_refl _) (.cells #[.slice a ls.length cap, .int .i64 df, mv, .bool op] 50)
  have hx : (w.alloc (.cells #[.slice a ls.length cap, .int .i64 df, mv, .bool op] 50)).heap[w.heap.size]? = some (.cells #[.slice a ls.length cap, .int .i64 df, mv, .bool op] 50 (0, 0)) := heap_alloc_new w _
  have H0 : Hid _ := And.intro hb hx
  have HC : Hid _ := hc
  clear hb hx hc
  go_enter Tryz.func79, Tryz.ntmps79
  go_wp2_with fail
  obtain ⟨hb0, hx0⟩ := H0.out
  clear H0
  generalize w.alloc (.cells #[.slice a ls.length cap, .int .i64 df, mv, .bool op] 50) = wz at *
  go_loopw [10] (fun i wr => ∃ j, j ≤ ls.length ∧ i = .int .i64 j ∧ Hid (firstI df ls u = firstI df (ls.drop j) u) ∧ Below w.heap.size w wr ∧ wr.heap[w.heap.size]? = some (.cells #[.slice a ls.length cap, .int .i64 df, mv, .bool op] 50 (0, 0))) (fun i _ => ls.length - (intOf i).toNat)
  case atStart => exact ⟨0, Nat.zero_le _, rfl, rfl, hb0, hx0⟩
  case round =>
    obtain ⟨j, hj, rfl, HV, hbw, hxw⟩ := hrel
    have q1 := cell_of_row wr w.heap.size 1 _ _ _ hxw
    simp only [List.getElem?_toArray, List.getElem?_cons_zero, List.getElem?_cons_succ] at q1
    clear hb0 hx0
    by_cases hlt : j < ls.length
    · obtain ⟨b, o, rfl, c0, c1, hn⟩ := HC.out j hlt
      have HS : Hid _ := first_step df ls u j hlt
      have c0' : wr.cell? ⟨b, o + j * 2, none⟩ = some (S (ls.getD j ([], 0)).1) := by rw [hbw.cell (p := ⟨b, o + j * 2, none⟩) (World.block_lt_of_cell? w _ c0)]; exact c0
      have c1' : wr.cell? ⟨b, o + j * 2 + 1, none⟩ = some (.int .i64 (ls.getD j ([], 0)).2) := by rw [hbw.cell (p := ⟨b, o + j * 2 + 1, none⟩) (World.block_lt_of_cell? w _ c1)]; exact c1
      have lb := World.block_lt_of_cell? wr _ c0'
      simp only at lb
      have b0 : (0 : Int) ≤ (j : Int) := by omega
      have b1 : (j : Int) < (ls.length : Int) := by omega
      have ne1 : wr.heap.size ≠ b := by omega
      clear c0 c1
      generalize ls.getD j ([], 0) = x at *
      have hbA : Hid (Below w.heap.size w (wr.alloc (.cells #[S x.1, .int .i64 x.2] 108))) := hbw.alloc hbw.size _
      have hxA : Hid ((wr.alloc (.cells #[S x.1, .int .i64 x.2] 108)).heap[w.heap.size]? = some (.cells #[.slice (some ⟨b, o, none⟩) ls.length cap, .int .i64 df, mv, .bool op] 50 (0, 0))) := by show _ = _; rw [Below.heap_alloc _ _ _ (lt_of_get hxw)]; exact hxw
      clear hbw hxw
      cases hx : (x.1 == u) with
      | true =>
        have HS2 : Hid (firstI df ls u = x.2) := by show _ = _; rw [HV.out, HS.out, if_pos hx]
        clear HS HV
        go_wp2_with fail
        go_ret
        exact ⟨by rw [HS2.out]; rfl, hbA.out⟩
      | false =>
        have HS2 : Hid (firstI df ls u = firstI df (ls.drop (j + 1)) u) := by show _ = _; rw [HV.out, HS.out, if_neg (by rw [hx]; simp)]
        clear HS HV
        go_wp2_with fail
        go_roundw
        case rel => exact ⟨j + 1, by omega, by simp, HS2.out, hbA.out, hxA.out⟩
        case measure => simp [intOf]; omega
    · have hje : j = ls.length := by omega
      subst hje
      have HE : Hid (firstI df ls u = df) := by show _ = _; rw [HV.out, List.drop_length]; rfl
      have HB : Hid _ := hbw
      clear HV hbw
      go_wp2_with fail
      go_ret
      exact ⟨by rw [HE.out]; rfl, HB.out⟩

set_option maxHeartbeats 4000000 in
theorem pstanding_any {lv mv : Value} {df : Int} {op : Bool} {ls : List (List UInt8 × Int)} (u : List UInt8) (w : World) (h : PairsAt mv ls w) :
    Calls Tryz.prog 80 #[.agg #[lv, .int .i64 df, mv, .bool op], S u] w fun e w' => e = .returned (.int .i64 (firstK ls u)) ∧ Below w.heap.size w w' := by
  obtain ⟨hm, a, cap, rfl, hc⟩ := h
  unfold maxLen at hm
  have hb := (Below.refl w.heap.size w).alloc (Nat.le_refl _) (.cells #[lv, .int .i64 df, .slice a ls.length cap, .bool op] 50)
  have hx : (w.alloc (.cells #[lv, .int .i64 df, .slice a ls.length cap, .bool op] 50)).heap[w.heap.size]? = some (.cells #[lv, .int .i64 df, .slice a ls.length cap, .bool op] 50 (0, 0)) := heap_alloc_new w _
  have H0 : Hid _ := And.intro hb hx
  have HC : Hid _ := hc
  clear hb hx hc
  go_enter Tryz.func80, Tryz.ntmps80
  go_wp2_with fail
  obtain ⟨hb0, hx0⟩ := H0.out
  clear H0
  generalize w.alloc (.cells #[lv, .int .i64 df, .slice a ls.length cap, .bool op] 50) = wz at *
  go_loopw [10] (fun i wr => ∃ j, j ≤ ls.length ∧ i = .int .i64 j ∧ Hid (firstK ls u = firstK (ls.drop j) u) ∧ Below w.heap.size w wr ∧ wr.heap[w.heap.size]? = some (.cells #[lv, .int .i64 df, .slice a ls.length cap, .bool op] 50 (0, 0))) (fun i _ => ls.length - (intOf i).toNat)
  case atStart => exact ⟨0, Nat.zero_le _, rfl, rfl, hb0, hx0⟩
  case round =>
    obtain ⟨j, hj, rfl, HV, hbw, hxw⟩ := hrel
    have q1 := cell_of_row wr w.heap.size 1 _ _ _ hxw
    simp only [List.getElem?_toArray, List.getElem?_cons_zero, List.getElem?_cons_succ] at q1
    clear hb0 hx0
    by_cases hlt : j < ls.length
    · obtain ⟨b, o, rfl, c0, c1, hn⟩ := HC.out j hlt
      have HS : Hid _ := firstK_step ls u j hlt
      have c0' : wr.cell? ⟨b, o + j * 2, none⟩ = some (S (ls.getD j ([], 0)).1) := by rw [hbw.cell (p := ⟨b, o + j * 2, none⟩) (World.block_lt_of_cell? w _ c0)]; exact c0
      have c1' : wr.cell? ⟨b, o + j * 2 + 1, none⟩ = some (.int .i64 (ls.getD j ([], 0)).2) := by rw [hbw.cell (p := ⟨b, o + j * 2 + 1, none⟩) (World.block_lt_of_cell? w _ c1)]; exact c1
      have lb := World.block_lt_of_cell? wr _ c0'
      simp only at lb
      have b0 : (0 : Int) ≤ (j : Int) := by omega
      have b1 : (j : Int) < (ls.length : Int) := by omega
      have ne1 : wr.heap.size ≠ b := by omega
      clear c0 c1
      generalize ls.getD j ([], 0) = x at *
      have hbA : Hid (Below w.heap.size w (wr.alloc (.cells #[S x.1, .int .i64 x.2] 110))) := hbw.alloc hbw.size _
      have hxA : Hid ((wr.alloc (.cells #[S x.1, .int .i64 x.2] 110)).heap[w.heap.size]? = some (.cells #[lv, .int .i64 df, .slice (some ⟨b, o, none⟩) ls.length cap, .bool op] 50 (0, 0))) := by show _ = _; rw [Below.heap_alloc _ _ _ (lt_of_get hxw)]; exact hxw
      clear hbw hxw
      cases hx : (x.1 == u) with
      | true =>
        have HS2 : Hid (firstK ls u = knownI x.2) := by show _ = _; rw [HV.out, HS.out, if_pos hx]
        have WK := fun W => pmember_any x.2 W
        generalize knownI x.2 = kx at *
        clear HS HV
        go_wp2_with fail
        refine (WK _).mono ?_
        rintro e w5 ⟨rfl, rfl⟩
        clear WK
        go_wp2_with fail
        go_ret
        exact ⟨by rw [HS2.out]; rfl, hbA.out⟩
      | false =>
        have HS2 : Hid (firstK ls u = firstK (ls.drop (j + 1)) u) := by show _ = _; rw [HV.out, HS.out, if_neg (by rw [hx]; simp)]
        clear HS HV
        go_wp2_with fail
        go_roundw
        case rel => exact ⟨j + 1, by omega, by simp, HS2.out, hbA.out, hxA.out⟩
        case measure => simp [intOf]; omega
    · have hje : j = ls.length := by omega
      subst hje
      have HE : Hid (firstK ls u = 0) := by show _ = _; rw [HV.out, List.drop_length]; rfl
      have HB : Hid _ := hbw
      clear HV hbw
      go_wp2_with fail
      go_ret
      exact ⟨by rw [HE.out]; rfl, HB.out⟩
end Go.Proofs.YtfkdailfcmnjlaaGreatDoor

namespace Go.Proofs.YtfkdailfcmnjlaaGreatDoor
open Go Go.RowKit
set_option maxRecDepth 100000
attribute [local go_sem ↓] Go.wp_at_zero Go.wp_at_succ

theorem idx_le (l : List (List UInt8)) (s : List UInt8) : idx l s < l.length ∨ l = [] := by
  induction l with
  | nil => exact .inr rfl
  | cons x r ih =>
    left; unfold idx
    rcases ih with ih | ih
    · simp only [List.length_cons]
      split
      · omega
      · split <;> omega
    · subst ih; split <;> simp [idx]
theorem kind_le (t : Tok) : kindOf t ≤ 100 := by
  have h : idx spell t.text < 36 := by
    rcases idx_le spell t.text with h | h
    · exact h
    · simp [spell] at h
  unfold kindOf; split; omega; split; omega; split; omega; omega

/-- What reading a condition leaves. -/
def LeftC (rb gl cl : Nat) (ts : List Tok) (s : Q) (w : World) (r : Rd) (e : Ending) (w' : World) : Prop :=
  ∃ b, e = .returned (.pointer (some ⟨b, 0, none⟩)) ∧ PF rb w w' ∧ ((r.ok = true ∧ RR rb gl cl ts { s with i := r.i } w' ∧ CondAt r.L rb w' r.top b) ∨ (r.ok = false ∧ RR rb gl cl ts (failQ ts { s with i := r.i }) w'))
/-- What it leaves where it had failed. -/
def LeftE (rb gl cl : Nat) (ts : List Tok) (s : Q) (w : World) (e : Ending) (w' : World) : Prop :=
  ∃ b, e = .returned (.pointer (some ⟨b, 0, none⟩)) ∧ PF rb w w' ∧ RR rb gl cl ts s w'

theorem leaf_at (L : List Pt) (w : World) (t : Tok) (b : Nat) {lo : Nat} (hlo : lo ≤ b) (h : w.heap[b]? = some (cdObj t (.slice none 0 0) 0)) : CondAt (L ++ [⟨t, []⟩]) lo w L.length b := by
  have e : (L ++ [(⟨t, []⟩ : Pt)]).getD L.length noPt = ⟨t, []⟩ := by simp [List.getD_eq_getElem?_getD]
  exact .mk L.length b (.slice none 0 0) (fun _ => 0) (by simp) hlo (by rw [e]; exact h) (by rw [e]; exact .inl ⟨rfl, rfl⟩) (by rw [e]; intro j hj; simp at hj) (by rw [e]; intro j hj; simp at hj)

set_option maxHeartbeats 2000000 in
theorem single_yes {rb gl cl : Nat} {ts : List Tok} {s : Q} {w : World} (h : RR rb gl cl ts s w) (ht : TokW (tokAt ts s.i)) (ha : alone (tokAt ts s.i) = true) (L : List Pt) :
    Calls Tryz.prog 286 #[.pointer (some ⟨rb, 0, none⟩)] w (LeftC rb gl cl ts s w ⟨true, s.i + 1, L ++ [⟨tokAt ts s.i, []⟩], L.length⟩) := by
  rw [alone_iff ht] at ha
  have hk0 : kindOf (tokAt ts s.i) ≠ 0 := fun e => by rw [e] at ha; exact absurd ha (by decide)
  have hmore := h.more hk0
  have HK := kind_any h
  have HS := standsAlone_any (kindOf (tokAt ts s.i)) w.drew (kind_le _)
  rw [ha] at HS
  have HT := take_any h.drew hmore
  unfold wordV at HT
  have hF : PF rb w w.drew := (PF.refl rb w).drew
  have HF : Hid _ := hF
  clear hF h ht ha hk0
  go_enter Tryz.func286, Tryz.ntmps286
  go_wp2_with fail
  refine HK.mono ?_
  rintro e w' ⟨rfl, rfl⟩
  go_wp2_with fail
  refine HS.mono ?_
  rintro e w' ⟨rfl, rfl⟩
  go_wp2_with fail
  refine HT.mono ?_
  rintro e w3 ⟨rfl, h3, F3⟩
  have HF3 : Hid _ := HF.out.trans F3
  have H3 : Hid _ := h3
  clear HK HS HT HF F3 h3
  go_wp2_with fail
  go_ret
  refine ⟨w3.heap.size, rfl, HF3.out.alloc _, .inl ⟨rfl, H3.out.alloc _, ?_⟩⟩
  exact leaf_at L _ _ _ (Nat.le_of_lt H3.out.rlt) (heap_alloc_new w3 _)

set_option maxHeartbeats 2000000 in
theorem single_fail {rb gl cl : Nat} {ts : List Tok} {s : Q} {w : World} (h : RR rb gl cl ts s w) (ha : standsK (kindOf (tokAt ts s.i)) = false) :
    Calls Tryz.prog 286 #[.pointer (some ⟨rb, 0, none⟩)] w fun e w' => ∃ b, e = .returned (.pointer (some ⟨b, 0, none⟩)) ∧ PF rb w w' ∧ RR rb gl cl ts (failQ ts s) w' := by
  have HK := kind_any h
  have HS := standsAlone_any (kindOf (tokAt ts s.i)) w.drew (kind_le _)
  rw [ha] at HS
  have HT := fail_any h.drew
  have hF : PF rb w w.drew := (PF.refl rb w).drew
  have HF : Hid _ := hF
  clear hF h ha
  go_enter Tryz.func286, Tryz.ntmps286
  go_wp2_with fail
  refine HK.mono ?_
  rintro e w' ⟨rfl, rfl⟩
  go_wp2_with fail
  refine HS.mono ?_
  rintro e w' ⟨rfl, rfl⟩
  go_wp2_with fail
  refine HT.mono ?_
  rintro e w3 ⟨rfl, h3, F3⟩
  have HF3 : Hid _ := HF.out.trans F3
  have H3 : Hid _ := h3
  clear HK HS HT HF F3 h3
  go_wp2_with fail
  go_ret
  exact ⟨w3.heap.size, rfl, HF3.out.alloc _, H3.out.alloc _⟩
theorem single_no {rb gl cl : Nat} {ts : List Tok} {s : Q} {w : World} (h : RR rb gl cl ts s w) (ht : TokW (tokAt ts s.i)) (ha : alone (tokAt ts s.i) = false) :
    Calls Tryz.prog 286 #[.pointer (some ⟨rb, 0, none⟩)] w (LeftC rb gl cl ts s w ⟨false, s.i, [], 0⟩) := by
  rw [alone_iff ht] at ha
  refine (single_fail h ha).mono ?_
  rintro e w' ⟨b, h1, h2, h3⟩
  exact ⟨b, h1, h2, .inr ⟨rfl, h3⟩⟩
theorem failQ_end {ts : List Tok} {s : Q} (hb : s.bad = true) (hi : s.i = ts.length - 1) : failQ ts s = s := by
  unfold failQ; rw [hb, if_pos rfl, ← hi]; cases s; simp at hb; rw [hb]
theorem single_end {rb gl cl : Nat} {ts : List Tok} {s : Q} {w : World} (h : RR rb gl cl ts s w) (hb : s.bad = true) (hi : s.i = ts.length - 1) :
    Calls Tryz.prog 286 #[.pointer (some ⟨rb, 0, none⟩)] w (LeftE rb gl cl ts s w) := by
  refine (single_fail h (by rw [hi, h.fin]; decide)).mono ?_
  rintro e w' ⟨b, h1, h2, h3⟩
  exact ⟨b, h1, h2, by rw [failQ_end hb hi] at h3; exact h3⟩
end Go.Proofs.YtfkdailfcmnjlaaGreatDoor

namespace Go.Proofs.YtfkdailfcmnjlaaGreatDoor
open Go Go.RowKit
set_option maxRecDepth 100000
attribute [local go_sem ↓] Go.wp_at_zero Go.wp_at_succ

/-- A method value of the reader's. -/
def mv (n rb : Nat) : Value := .func (.func n) #[.pointer (some ⟨rb, 0, none⟩)] #[]
/-- A function that can be called. -/
def Ent (n : Nat) : Prop := ∀ (args : Array Value) (w : World), (callFunc n args).run Tryz.prog w = .ok (.enter n args) w

set_option maxHeartbeats 2000000 in
theorem fork_yes {rb gl cl : Nat} {ts : List Tok} {s : Q} {w : World} (h : RR rb gl cl ts s w) (k n m : Nat) (hk : kindOf (tokAt ts s.i) = k) (hn : Ent n) (R : Nat → World → Prop)
    (HC : Calls Tryz.prog n #[.pointer (some ⟨rb, 0, none⟩)] w.drew fun e w' => ∃ b, e = .returned (.pointer (some ⟨b, 0, none⟩)) ∧ R b w') :
    Calls Tryz.prog 213 #[.pointer (some ⟨rb, 0, none⟩), .int .i64 k, mv n rb, mv m rb] w fun e w' => ∃ b, e = .returned (.pointer (some ⟨b, 0, none⟩)) ∧ R b w' := by
  have HK := kind_any h
  rw [hk] at HK
  unfold mv
  unfold Ent at hn
  clear h hk
  go_enter Tryz.func213, Tryz.ntmps213
  go_wp2_with fail
  refine HK.mono ?_
  rintro e w' ⟨rfl, rfl⟩
  go_wp2_with fail
  refine HC.mono ?_
  rintro e w' ⟨b, rfl, hR⟩
  go_wp2_with fail
  go_ret
  exact ⟨b, rfl, hR⟩
set_option maxHeartbeats 2000000 in
theorem fork_no {rb gl cl : Nat} {ts : List Tok} {s : Q} {w : World} (h : RR rb gl cl ts s w) (k n m : Nat) (hk : kindOf (tokAt ts s.i) ≠ k) (hm : Ent m) (R : Nat → World → Prop)
    (HC : Calls Tryz.prog m #[.pointer (some ⟨rb, 0, none⟩)] w.drew fun e w' => ∃ b, e = .returned (.pointer (some ⟨b, 0, none⟩)) ∧ R b w') :
    Calls Tryz.prog 213 #[.pointer (some ⟨rb, 0, none⟩), .int .i64 k, mv n rb, mv m rb] w fun e w' => ∃ b, e = .returned (.pointer (some ⟨b, 0, none⟩)) ∧ R b w' := by
  have HK := kind_any h
  generalize kindOf (tokAt ts s.i) = kd at HK hk
  have hk' : ¬ ((kd : Int) = (k : Int)) := by omega
  have hk2 : ((kd : Int) == (k : Int)) = false := by simpa using hk'
  unfold mv
  unfold Ent at hm
  clear h hk
  go_enter Tryz.func213, Tryz.ntmps213
  go_wp2_with fail
  refine HK.mono ?_
  rintro e w' ⟨rfl, rfl⟩
  go_wp2_with fail
  refine HC.mono ?_
  rintro e w' ⟨b, rfl, hR⟩
  go_wp2_with fail
  go_ret
  exact ⟨b, rfl, hR⟩
end Go.Proofs.YtfkdailfcmnjlaaGreatDoor

namespace Go.Proofs.YtfkdailfcmnjlaaGreatDoor
open Go Go.RowKit
set_option maxRecDepth 100000
attribute [local go_sem ↓] Go.wp_at_zero Go.wp_at_succ

/-- The memory with one part more over two. -/
def joinW (w : World) (t : Tok) (b1 b2 : Nat) : World := (w.alloc (.cells #[.pointer (some ⟨b1, 0, none⟩), .pointer (some ⟨b2, 0, none⟩)] 161 (0, 0))).alloc (cdObj t (.slice (some ⟨w.heap.size, 0, none⟩) 2 2) 0)
set_option maxHeartbeats 2000000 in
theorem join_any {rb gl cl : Nat} {ts : List Tok} {s : Q} {w : World} (h : RR rb gl cl ts s w) (hi : s.i + 1 < ts.length) (n bl : Nat) (hn : Ent n) (R : Nat → World → Prop)
    (HC : ∀ w1, RR rb gl cl ts { s with i := s.i + 1 } w1 → PF rb w w1 → Calls Tryz.prog n #[.pointer (some ⟨rb, 0, none⟩)] w1 fun e w' => ∃ b, e = .returned (.pointer (some ⟨b, 0, none⟩)) ∧ PF rb w1 w' ∧ R b w') :
    Calls Tryz.prog 266 #[.pointer (some ⟨rb, 0, none⟩), .pointer (some ⟨bl, 0, none⟩), mv n rb] w fun e w' => ∃ b w3, e = .returned (.pointer (some ⟨w3.heap.size + 1, 0, none⟩)) ∧ R b w3 ∧ PF rb w w3 ∧ w' = joinW w3 (tokAt ts s.i) bl b := by
  have HJ : Hid (∀ w3 b, joinW w3 (tokAt ts s.i) bl b = (w3.alloc (.cells #[.pointer (some ⟨bl, 0, none⟩), .pointer (some ⟨b, 0, none⟩)] 161 (0, 0))).alloc (.cells #[.int .i64 (kindOf (tokAt ts s.i)), .int .i64 (tokAt ts s.i).pl, .int .i64 (nmOf (tokAt ts s.i)), S (ownOf (tokAt ts s.i)), .slice (some ⟨w3.heap.size, 0, none⟩) 2 2, .int .i64 0] 229 (0, 0))) := fun _ _ => rfl
  have HT := take_any h hi
  unfold wordV at HT
  unfold mv
  unfold Ent at hn
  go_enter Tryz.func266, Tryz.ntmps266
  go_wp2_with fail
  refine HT.mono ?_
  rintro e w1 ⟨rfl, h1, F1⟩
  clear HT
  generalize kindOf (tokAt ts s.i) = tk at *
  generalize (tokAt ts s.i).pl = tp at *
  generalize nmOf (tokAt ts s.i) = tm at *
  generalize ownOf (tokAt ts s.i) = tt at *
  have hlt1 := h1.rlt
  have h2 := (h1.alloc (wvObj tk tp tm tt)).drew
  have F2 := ((F1.alloc (wvObj tk tp tm tt)).drew)
  have hx2 : (w1.alloc (wvObj tk tp tm tt)).drew.heap[w1.heap.size]? = some (wvObj tk tp tm tt) := heap_alloc_new w1 _
  have HCD := HC _ h2 F2
  have e1 : w1.heap.size ≠ rb := by omega
  have hl2 : w1.heap.size < (w1.alloc (wvObj tk tp tm tt)).drew.heap.size := lt_of_get hx2
  have keepF : ∀ w', PF rb (w1.alloc (wvObj tk tp tm tt)).drew w' → (w'.cell? ⟨w1.heap.size, 0, none⟩ = some (.int .i64 tk) ∧ w'.cell? ⟨w1.heap.size, 1, none⟩ = some (.int .i64 tp) ∧ w'.cell? ⟨w1.heap.size, 2, none⟩ = some (.int .i64 tm) ∧ w'.cell? ⟨w1.heap.size, 3, none⟩ = some (S tt)) := fun w' hf =>
    (wv_cells (by rw [hf.block _ hl2 e1]; exact hx2)).1
  have KF : Hid _ := keepF
  have H2 : Hid _ := h2
  have HF2 : Hid _ := F2
  have hS := keepF _ (PF.refl _ _)
  clear HC h1 F1 h2 F2 hx2 keepF h
  unfold wvObj at HCD KF H2 HF2 hS hl2
  go_wp2_with fail
  obtain ⟨x0, x1, x2, x3⟩ := hS
  show Code.wp _ _ _ _ (w1.alloc (.cells #[.int .i64 tk, .int .i64 tp, .int .i64 tm, S tt] 160 (0, 0)))
  generalize hg : w1.alloc (.cells #[.int .i64 tk, .int .i64 tp, .int .i64 tm, S tt] 160 (0, 0)) = w2 at *
  generalize w1.heap.size = bx at *
  clear hg hlt1
  go_region_held3 (fun w' => w'.cell? ⟨bx, 0, none⟩ = some (.int .i64 tk) ∧ w'.cell? ⟨bx, 1, none⟩ = some (.int .i64 tp) ∧ w'.cell? ⟨bx, 2, none⟩ = some (.int .i64 tm) ∧ w'.cell? ⟨bx, 3, none⟩ = some (S tt)) (first | exact KF.out _ hF3 | go_keep) ((refine HCD.mono ?_; rintro e w3 ⟨b, rfl, hF3, hR⟩))
  rename_i hHeld
  clear hHeld
  go_wp2_with fail
  go_ret
  exact ⟨b, w3, rfl, hR, HF2.out.trans hF3, (HJ.out w3 b).symm⟩
end Go.Proofs.YtfkdailfcmnjlaaGreatDoor

namespace Go.Proofs.YtfkdailfcmnjlaaGreatDoor
open Go Go.RowKit
set_option maxRecDepth 100000

theorem CondAt.lt {L : List Pt} {lt : Nat} {w : World} {i b : Nat} (h : CondAt L lt w i b) : i < L.length := h.ind (fun i _ => i < L.length) fun _ _ _ _ hi _ _ _ _ _ _ => hi
theorem CondAt.grow {L : List Pt} {lt : Nat} {w w' : World} {i b : Nat} (h : CondAt L lt w i b) (hb : Below w.heap.size w w') : CondAt L lt w' i b :=
  h.keep fun k _ _ hk _ => hb.block k (lt_of_get hk)
theorem getD_lastP (L : List Pt) (p : Pt) : (L ++ [p]).getD L.length noPt = p := by simp [List.getD_eq_getElem?_getD]

/-- The memory with one part more over some. -/
def overW (w : World) (t : Tok) (bs : List Nat) : World := (w.alloc (.cells (bs.map fun b => Value.pointer (some ⟨b, 0, none⟩)).toArray 161 (0, 0))).alloc (cdObj t (.slice (some ⟨w.heap.size, 0, none⟩) bs.length bs.length) 0)
theorem over_below (w : World) (t : Tok) (bs : List Nat) : Below w.heap.size w (overW w t bs) :=
  ((Below.refl _ _).alloc (Nat.le_refl _) _).alloc (by simp) _
theorem joinW_over (w : World) (t : Tok) (b1 b2 : Nat) : joinW w t b1 b2 = overW w t [b1, b2] := rfl
theorem over_at {L : List Pt} {w : World} {t : Tok} {xs bs : List Nat} {lo : Nat} (hlo : lo < w.heap.size) (hl : xs.length = bs.length) (h0 : 0 < bs.length) (h : ∀ j, j < bs.length → CondAt L lo w (xs.getD j 0) (bs.getD j 0)) :
    CondAt (L ++ [⟨t, xs⟩]) lo (overW w t bs) L.length (w.heap.size + 1) := by
  have e := getD_lastP L ⟨t, xs⟩
  have hg : (overW w t bs).heap[w.heap.size]? = some (.cells (bs.map fun b => Value.pointer (some ⟨b, 0, none⟩)).toArray 161 (0, 0)) := by
    unfold overW
    rw [Below.heap_alloc _ _ _ (by simp)]; exact heap_alloc_new w _
  have hc : (overW w t bs).heap[w.heap.size + 1]? = some (cdObj t (.slice (some ⟨w.heap.size, 0, none⟩) bs.length bs.length) 0) := by
    have := heap_alloc_new (w.alloc (.cells (bs.map fun b => Value.pointer (some ⟨b, 0, none⟩)).toArray 161 (0, 0))) (cdObj t (.slice (some ⟨w.heap.size, 0, none⟩) bs.length bs.length) 0)
    simp only [World.size_alloc] at this
    exact this
  have hm : (bs.map fun b => Value.pointer (some ⟨b, 0, none⟩)) = (List.range bs.length).map fun j => Value.pointer (some ⟨bs.getD j 0, 0, none⟩) := by
    apply List.ext_getElem
    · simp
    · intro j h1 h2
      simp at h1
      simp [List.getD_eq_getElem?_getD, List.getElem?_eq_getElem h1]
  refine .mk L.length (w.heap.size + 1) (.slice (some ⟨w.heap.size, 0, none⟩) bs.length bs.length) (fun j => bs.getD j 0) (by simp) (by omega) (by rw [e]; exact hc) ?_ ?_ ?_
  · rw [e]
    simp only [hl]
    refine .inr ⟨h0, w.heap.size, rfl, ?_⟩
    rw [hg, hm]
  · rw [e]; intro j hj
    simp only [hl] at hj
    exact (h j hj).lt
  · rw [e]; intro j hj
    simp only [hl] at hj
    exact ((h j hj).grow (over_below w t bs)).put _
end Go.Proofs.YtfkdailfcmnjlaaGreatDoor

namespace Go.Proofs.YtfkdailfcmnjlaaGreatDoor
open Go Go.RowKit
set_option maxRecDepth 100000
attribute [local go_sem ↓] Go.wp_at_zero Go.wp_at_succ

theorem P_more {g tag : Nat} {ts : List Tok} {i x : Nat} {L : List Pt} {r : Rd} (h : P g tag ts i L x = some r) (ok : r.ok = true) (ht : tag ≤ 6) : ∃ new, r.L = L ++ new :=
  (P_kept g tag ts i L x L.length r h ok (Nat.le_refl _) (fun k h1 h2 => by omega) (by omega) (.inl ht)).more
/-- A form reads as the plain reader does. -/
def FormOK (f fn lv rb gl cl : Nat) (ts : List Tok) : Prop := ∀ g, g ≤ f → ∀ (s1 : Q) (w1 : World) (L : List Pt) (r1 : Rd), RR rb gl cl ts s1 w1 → s1.bad = false → P g lv ts s1.i L 0 = some r1 → Calls Tryz.prog fn #[.pointer (some ⟨rb, 0, none⟩)] w1 (LeftC rb gl cl ts s1 w1 r1)
/-- The kinds of joining words, as a variadic call lays them. -/
def ksObj (ks : List Nat) : Obj := .cells (ks.map fun (k : Nat) => Value.int .i64 k).toArray 158 (0, 0)
theorem ks_cells {w : World} {ks : List Nat} {jb : Nat} (h : w.heap[jb]? = some (ksObj ks)) : ∀ j, j < ks.length → w.cell? ⟨jb, j, none⟩ = some (.int .i64 (ks.getD j 0)) := fun j hj => by
  rw [cell_of_row w jb j _ _ _ h]
  simp [List.getD_eq_getElem?_getD, List.getElem?_eq_getElem hj]

/-- Where the loop stands. -/
def AtC (f rb gl cl : Nat) (ts : List Tok) (s : Q) (w : World) (n : Nat) (r : Rd) (v : Value) (wr : World) : Prop :=
  ∃ s' b, v = .pointer (some ⟨b, 0, none⟩) ∧ RR rb gl cl ts s' wr ∧ PF rb w wr ∧ ((s' = { s with i := s'.i } ∧ ∃ g L x, g ≤ f ∧ P g (10 + n) ts s'.i L x = some r ∧ CondAt L rb wr x b) ∨ (r.ok = false ∧ s' = failQ ts { s with i := r.i }))
def rdI2 (rb : Nat) (w : World) : Nat := (intOf ((w.cell? ⟨rb, 1, none⟩).getD (.int .i64 0))).toNat

theorem rdI2_eq {rb gl cl : Nat} {ts : List Tok} {s : Q} {w : World} (h : RR rb gl cl ts s w) : rdI2 rb w = s.i := by
  unfold rdI2; rw [h.cells.1.2.1]; simp [intOf]
theorem tokAt_mem {ts : List Tok} {i : Nat} (h : i < ts.length) : tokAt ts i ∈ ts := by
  unfold tokAt; rw [List.getD_eq_getElem?_getD, List.getElem?_eq_getElem h]; exact List.getElem_mem h
theorem more_at {L L' : List Pt} {lo : Nat} {w : World} {x b : Nat} (h : CondAt L lo w x b) (hm : ∃ new, L' = L ++ new) : CondAt L' lo w x b := by
  obtain ⟨new, rfl⟩ := hm
  exact h.more (by simp) (fun k hk => by simp [List.getD_eq_getElem?_getD, List.getElem?_append_left hk])
/-- What stands behind a joining word and a form. -/
def AfterJ (rb gl cl : Nat) (ts : List Tok) (s' : Q) (bb : Rd) (b2 : Nat) (w3 : World) : Prop := (bb.ok = true ∧ RR rb gl cl ts { s' with i := bb.i } w3 ∧ CondAt bb.L rb w3 bb.top b2) ∨ (bb.ok = false ∧ RR rb gl cl ts (failQ ts { s' with i := bb.i }) w3)

set_option maxHeartbeats 2000000 in
theorem chain_any {f rb gl cl : Nat} {ts : List Tok} {s : Q} {w : World} (h : RR rb gl cl ts s w) (hW : ∀ t ∈ ts, TokW t) (hgood : s.bad = false) (n fn : Nat) (hch : n = 0 ∨ n = 1 ∨ n = 4) (hf : FormOK f fn (n + 1) rb gl cl ts) (hfn : Ent fn) (jb : Nat)
    (hj : w.heap[jb]? = some (ksObj (joinK n))) (L : List Pt) (r : Rd) (hP : P (f + 1) n ts s.i L 0 = some r) :
    Calls Tryz.prog 246 #[.pointer (some ⟨rb, 0, none⟩), mv fn rb, .slice (some ⟨jb, 0, none⟩) (joinK n).length (joinK n).length] w (LeftC rb gl cl ts s w r) := by
  obtain ⟨a, hPa, hra⟩ := chain_split (by unfold isChain; omega) hP
  have HF1 := hf f (Nat.le_refl _) s w L a h hgood hPa
  have hj0 : jb ≠ rb := fun e => by rw [e, h.rd] at hj; simp [rdObj, ksObj] at hj
  have hjl := lt_of_get hj
  have H1 : Hid _ := hra
  have hfn' := hfn
  unfold mv
  unfold Ent at hfn'
  clear hP hPa hra
  go_enter Tryz.func246, Tryz.ntmps246
  go_wp2_with fail
  refine HF1.mono ?_
  rintro e w1 ⟨b1, rfl, F1, hL⟩
  have hstart : AtC f rb gl cl ts s w n r (.pointer (some ⟨b1, 0, none⟩)) w1 := by
    rcases H1.out with ⟨ok, hp⟩ | ⟨ok, rfl⟩
    · rcases hL with ⟨_, hr, hc⟩ | ⟨hh, _⟩
      · exact ⟨_, b1, rfl, hr, F1, .inl ⟨rfl, f, a.L, a.top, Nat.le_refl _, hp, hc⟩⟩
      · rw [ok] at hh; simp at hh
    · rcases hL with ⟨hh, _⟩ | ⟨_, hr⟩
      · rw [ok] at hh; simp at hh
      · exact ⟨_, b1, rfl, hr, F1, .inr ⟨ok, rfl⟩⟩
  have HST : Hid _ := hstart
  clear hL HF1 F1 H1 hstart
  go_wp2_with fail
  have HJ : Hid _ := hj
  have HG : Hid _ := hgood
  clear hj h hgood
  go_loopw [7] (fun v wr => AtC f rb gl cl ts s w n r v wr) (fun _ wr => ts.length - rdI2 rb wr)
  case atStart => exact HST.out
  case round =>
    obtain ⟨s', b, rfl, hr, Fr', hst⟩ := hrel
    have ht := hW _ (tokAt_mem hr.lt)
    have hjr : wr.drew.heap[jb]? = some (ksObj (joinK n)) := by show wr.heap[jb]? = _; rw [Fr'.block _ hjl hj0]; exact HJ.out
    have hn4 : n ≤ 4 := by omega
    have hkl : (joinK n).length ≤ 100 := by rcases hch with rfl | rfl | rfl <;> decide
    have HK := kind_any hr
    have HCn := contains_any (joinK n) (kindOf (tokAt ts s'.i)) jb wr.drew hkl (ks_cells hjr)
    have hji := joins_iff hn4 ht
    cases hct : (joinK n).contains (kindOf (tokAt ts s'.i)) with
    | false =>
      rw [hct] at HCn hji
      have HL : Hid (LeftC rb gl cl ts s w r (.returned (.pointer (some ⟨b, 0, none⟩))) wr.drew) := by
        refine ⟨b, rfl, Fr'.drew, ?_⟩
        rcases hst with ⟨hs, g, L', x, hg, hp, hc⟩ | ⟨ok, hs⟩
        · cases g with
          | zero => rw [P] at hp; simp at hp
          | succ g =>
            have := loop_no (by unfold isChain; omega) hp hji
            subst this
            exact .inl ⟨rfl, by rw [← hs]; exact hr.drew, hc.keep fun k _ _ _ _ => rfl⟩
        · exact .inr ⟨ok, by rw [← hs]; exact hr.drew⟩
      clear hst hct hji ht hjr hr Fr'
      go_wp2_with fail
      refine HK.mono ?_
      rintro e w' ⟨rfl, rfl⟩
      go_wp2_with fail
      refine HCn.mono ?_
      rintro e w' ⟨rfl, rfl⟩
      go_wp2_with fail
      go_ret
      exact HL.out
    | true =>
      rw [hct] at HCn hji
      have hk0 : kindOf (tokAt ts s'.i) ≠ 0 := fun e => by
        rw [e, List.contains_iff_mem] at hct
        have := joinK_small n hn4 0 hct; omega
      have hmore := hr.more hk0
      rcases hst with ⟨hs, g, L', x, hg, hp, hc⟩ | ⟨ok, hs⟩
      · cases g with
        | zero => rw [P] at hp; simp at hp
        | succ g =>
          obtain ⟨bb, hPb, hcase⟩ := loop_yes (by unfold isChain; omega) hp hji
          have hsb : s'.bad = false := by rw [hs]; exact HG.out
          have HJn := join_any hr.drew hmore fn b hfn (AfterJ rb gl cl ts s' bb) (fun w1 h1 F1 => by
            refine (hf g (by omega) { s' with i := s'.i + 1 } w1 L' bb h1 hsb hPb).mono ?_
            rintro e w2 ⟨b2, h2, h3, h4⟩
            exact ⟨b2, h2, h3, h4⟩)
          have HH : Hid _ := hcase
          have HP : Hid _ := hPb
          have HS : Hid _ := hs
          have HCo : Hid _ := hc
          have HR : Hid _ := hr
          have HF : Hid _ := Fr'
          unfold mv at HJn
          clear hct hji ht hjr hr Fr' hcase hPb hs hc hp hsb hk0
          go_wp2_with fail
          refine HK.mono ?_
          rintro e w' ⟨rfl, rfl⟩
          go_wp2_with fail
          refine HCn.mono ?_
          rintro e w' ⟨rfl, rfl⟩
          go_wp2_with fail
          refine HJn.mono ?_
          rintro e w' ⟨b2, w3, rfl, hA, F3, rfl⟩
          clear HK HCn HJn
          have HA : Hid _ := hA
          have HF3 : Hid _ := F3
          clear hA F3
          go_wp2_with fail
          have hB := over_below w3 (tokAt ts s'.i) [b, b2]
          rw [← joinW_over] at hB
          have hF : PF rb w (joinW w3 (tokAt ts s'.i) b b2) := (HF.out.drew.trans HF3.out).trans (PF.of_below hB)
          rcases HA.out with ⟨ok, h3, hc3⟩ | ⟨ok, h3⟩
          · have h4 := h3.below hB
            have hkp := P_kept g (n + 1) ts (s'.i + 1) L' 0 L'.length bb HP.out ok (Nat.le_refl _) (fun k h1 h2 => by omega) (by omega) (.inl (by omega))
            have hfw := hkp.fwd
            refine ⟨?_, by rw [rdI2_eq h4, rdI2_eq HR.out]; simp only []; have := h4.lt; simp only [] at this; omega⟩
            rcases HH.out with ⟨no, _⟩ | ⟨_, ⟨h3', _⟩ | ⟨_, hp⟩⟩
            · rw [ok] at no; simp at no
            · omega
            · refine ⟨_, _, rfl, h4, hF, .inl ⟨by rw [HS.out], g, _, _, by omega, hp, ?_⟩⟩
              rw [joinW_over]
              refine over_at h3.rlt rfl (by simp) fun j hj => ?_
              have hcx := more_at ((HCo.out.pf HR.out (PF.refl rb wr).drew).pf HR.out.drew HF3.out) hkp.more
              match j, hj with
              | 0, _ => exact hcx
              | 1, _ => exact hc3
          · have h4 := h3.below hB
            refine ⟨?_, by rw [rdI2_eq h4, rdI2_eq HR.out]; simp only [failQ]; omega⟩
            rcases HH.out with ⟨_, rfl⟩ | ⟨yes, _⟩
            · exact ⟨_, _, rfl, h4, hF, .inr ⟨ok, by rw [HS.out]⟩⟩
            · rw [ok] at yes; simp at yes
      · exfalso
        apply hk0
        have : s'.i = ts.length - 1 := by rw [hs]; rfl
        rw [this]; exact hr.fin
end Go.Proofs.YtfkdailfcmnjlaaGreatDoor

namespace Go.Proofs.YtfkdailfcmnjlaaGreatDoor
open Go Go.RowKit
set_option maxRecDepth 100000
attribute [local go_sem ↓] Go.wp_at_zero Go.wp_at_succ

/-- A form that is asked behind a failure changes nothing more. -/
def FormE (fn rb gl cl : Nat) (ts : List Tok) : Prop := ∀ (s1 : Q) (w1 : World), RR rb gl cl ts s1 w1 → s1.bad = true → s1.i = ts.length - 1 → Calls Tryz.prog fn #[.pointer (some ⟨rb, 0, none⟩)] w1 (LeftE rb gl cl ts s1 w1)

set_option maxHeartbeats 2000000 in
theorem chain_end {rb gl cl : Nat} {ts : List Tok} {s : Q} {w : World} (h : RR rb gl cl ts s w) (hb : s.bad = true) (hi : s.i = ts.length - 1) (fn : Nat) (hf : FormE fn rb gl cl ts) (hfn : Ent fn) (ks : List Nat) (hkl : ks.length ≤ 100) (hk0 : 0 ∉ ks) (jb : Nat)
    (hj : w.heap[jb]? = some (ksObj ks)) :
    Calls Tryz.prog 246 #[.pointer (some ⟨rb, 0, none⟩), mv fn rb, .slice (some ⟨jb, 0, none⟩) ks.length ks.length] w (LeftE rb gl cl ts s w) := by
  have HF1 := hf s w h hb hi
  have hj0 : jb ≠ rb := fun e => by rw [e, h.rd] at hj; simp [rdObj, ksObj] at hj
  have hjl := lt_of_get hj
  have hfn' := hfn
  unfold mv
  unfold Ent at hfn'
  have HJ : Hid _ := hj
  have HI : Hid _ := hi
  have HK0 : Hid (ks.contains 0 = false) := by
    show _ = _
    rw [Bool.eq_false_iff]; intro e; rw [List.contains_iff_mem] at e; exact hk0 e
  clear h hj hi hb hk0
  go_enter Tryz.func246, Tryz.ntmps246
  go_wp2_with fail
  refine HF1.mono ?_
  rintro e w1 ⟨b1, rfl, F1, hr1⟩
  clear HF1
  have HF1 : Hid _ := F1
  have HR1 : Hid _ := hr1
  have HK := kind_any hr1
  have HCn := contains_any ks (kindOf (tokAt ts s.i)) jb w1.drew hkl (ks_cells (by show w1.heap[jb]? = _; rw [F1.block _ hjl hj0]; exact HJ.out))
  have hz : kindOf (tokAt ts s.i) = 0 := by rw [HI.out]; exact hr1.fin
  rw [hz] at HK HCn
  rw [HK0.out] at HCn
  clear F1 hr1 hz
  go_wp2_with fail
  go_loopw [7] (fun v wr => v = .pointer (some ⟨b1, 0, none⟩) ∧ wr = w1) (fun _ _ => 0)
  case atStart => exact ⟨rfl, rfl⟩
  case round =>
    obtain ⟨rfl, rfl⟩ := hrel
    go_wp2_with fail
    refine HK.mono ?_
    rintro e w' ⟨rfl, rfl⟩
    go_wp2_with fail
    refine HCn.mono ?_
    rintro e w' ⟨rfl, rfl⟩
    go_wp2_with fail
    go_ret
    exact ⟨b1, rfl, HF1.out.drew, HR1.out.drew⟩
set_option maxHeartbeats 2000000 in
theorem pair_end {rb gl cl : Nat} {ts : List Tok} {s : Q} {w : World} (h : RR rb gl cl ts s w) (hb : s.bad = true) (hi : s.i = ts.length - 1) (fn : Nat) (hf : FormE fn rb gl cl ts) (hfn : Ent fn) (ks : List Nat) (hkl : ks.length ≤ 100) (hk0 : 0 ∉ ks) (jb : Nat)
    (hj : w.heap[jb]? = some (ksObj ks)) :
    Calls Tryz.prog 282 #[.pointer (some ⟨rb, 0, none⟩), mv fn rb, .slice (some ⟨jb, 0, none⟩) ks.length ks.length] w (LeftE rb gl cl ts s w) := by
  have HF1 := hf s w h hb hi
  have hj0 : jb ≠ rb := fun e => by rw [e, h.rd] at hj; simp [rdObj, ksObj] at hj
  have hjl := lt_of_get hj
  have hfn' := hfn
  unfold mv
  unfold Ent at hfn'
  have HJ : Hid _ := hj
  have HI : Hid _ := hi
  have HK0 : Hid (ks.contains 0 = false) := by
    show _ = _
    rw [Bool.eq_false_iff]; intro e; rw [List.contains_iff_mem] at e; exact hk0 e
  clear h hj hi hb hk0
  go_enter Tryz.func282, Tryz.ntmps282
  go_wp2_with fail
  refine HF1.mono ?_
  rintro e w1 ⟨b1, rfl, F1, hr1⟩
  clear HF1
  have HF1 : Hid _ := F1
  have HR1 : Hid _ := hr1
  have HK := kind_any hr1
  have HCn := contains_any ks (kindOf (tokAt ts s.i)) jb w1.drew hkl (ks_cells (by show w1.heap[jb]? = _; rw [F1.block _ hjl hj0]; exact HJ.out))
  have hz : kindOf (tokAt ts s.i) = 0 := by rw [HI.out]; exact hr1.fin
  rw [hz] at HK HCn
  rw [HK0.out] at HCn
  clear F1 hr1 hz
  go_wp2_with fail
  refine HK.mono ?_
  rintro e w' ⟨rfl, rfl⟩
  go_wp2_with fail
  refine HCn.mono ?_
  rintro e w' ⟨rfl, rfl⟩
  go_wp2_with fail
  go_ret
  exact ⟨b1, rfl, HF1.out.drew, HR1.out.drew⟩

set_option maxHeartbeats 4000000 in
theorem pair_any {f rb gl cl : Nat} {ts : List Tok} {s : Q} {w : World} (h : RR rb gl cl ts s w) (hW : ∀ t ∈ ts, TokW t) (hgood : s.bad = false) (fn : Nat) (hf : FormOK f fn 4 rb gl cl ts) (hfn : Ent fn) (jb : Nat)
    (hj : w.heap[jb]? = some (ksObj (joinK 3))) (L : List Pt) (r : Rd) (hP : P (f + 1) 3 ts s.i L 0 = some r) :
    Calls Tryz.prog 282 #[.pointer (some ⟨rb, 0, none⟩), mv fn rb, .slice (some ⟨jb, 0, none⟩) (joinK 3).length (joinK 3).length] w (LeftC rb gl cl ts s w r) := by
  obtain ⟨a, hPa, hra⟩ := chain_split (by unfold isChain; omega) hP
  have HF1 := hf f (Nat.le_refl _) s w L a h hgood hPa
  have hj0 : jb ≠ rb := fun e => by rw [e, h.rd] at hj; simp [rdObj, ksObj] at hj
  have hjl := lt_of_get hj
  have H1 : Hid _ := hra
  have hfn' := hfn
  unfold mv
  unfold Ent at hfn'
  have HJ : Hid _ := hj
  have HG : Hid _ := hgood
  clear hP hPa hra hj h hgood
  generalize hlen : (joinK 3).length = jl
  have HLN : Hid _ := hlen
  clear hlen
  go_enter Tryz.func282, Tryz.ntmps282
  go_wp2_with fail
  refine HF1.mono ?_
  rintro e w1 ⟨b1, rfl, F1, hL⟩
  clear HF1
  have hst : ∃ s1 : Q, RR rb gl cl ts s1 w1 ∧ ((s1 = { s with i := a.i } ∧ a.ok = true ∧ P f 13 ts a.i a.L a.top = some r ∧ CondAt a.L rb w1 a.top b1) ∨ (r.ok = false ∧ s1 = failQ ts { s with i := r.i })) := by
    rcases H1.out with ⟨ok, hp⟩ | ⟨ok, rfl⟩
    · rcases hL with ⟨_, hr, hc⟩ | ⟨hh, _⟩
      · exact ⟨_, hr, .inl ⟨rfl, ok, hp, hc⟩⟩
      · rw [ok] at hh; simp at hh
    · rcases hL with ⟨hh, _⟩ | ⟨_, hr⟩
      · rw [ok] at hh; simp at hh
      · exact ⟨_, hr, .inr ⟨ok, rfl⟩⟩
  obtain ⟨s', hr, hst⟩ := hst
  have ht := hW _ (tokAt_mem hr.lt)
  have hjr : w1.drew.heap[jb]? = some (ksObj (joinK 3)) := by show w1.heap[jb]? = _; rw [F1.block _ hjl hj0]; exact HJ.out
  have HK := kind_any hr
  have HCn := contains_any (joinK 3) (kindOf (tokAt ts s'.i)) jb w1.drew (by decide) (ks_cells hjr)
  have hji := joins_iff (n := 3) (by omega) ht
  rw [HLN.out] at HCn
  have HF : Hid _ := F1
  clear hL H1 F1
  cases hct : (joinK 3).contains (kindOf (tokAt ts s'.i)) with
  | false =>
    rw [hct] at HCn hji
    have HL : Hid (LeftC rb gl cl ts s w r (.returned (.pointer (some ⟨b1, 0, none⟩))) w1.drew) := by
      refine ⟨b1, rfl, HF.out.drew, ?_⟩
      rcases hst with ⟨hs, _, hp, hc⟩ | ⟨ok, hs⟩
      · subst hs
        cases f with
        | zero => rw [P] at hp; simp at hp
        | succ g =>
          have := loop_no (n := 3) (by unfold isChain; omega) hp hji
          subst this
          exact .inl ⟨rfl, hr.drew, hc.keep fun k _ _ _ _ => rfl⟩
      · exact .inr ⟨ok, by rw [← hs]; exact hr.drew⟩
    clear hst hct hji ht hjr hr HF
    go_wp2_with fail
    refine HK.mono ?_
    rintro e w' ⟨rfl, rfl⟩
    go_wp2_with fail
    refine HCn.mono ?_
    rintro e w' ⟨rfl, rfl⟩
    go_wp2_with fail
    go_ret
    exact HL.out
  | true =>
    rw [hct] at HCn hji
    have hk0 : kindOf (tokAt ts s'.i) ≠ 0 := fun e => by
      rw [e, List.contains_iff_mem] at hct
      have := joinK_small 3 (by omega) 0 hct; omega
    have hmore := hr.more hk0
    rcases hst with ⟨hs, _, hp, hc⟩ | ⟨ok, hs⟩
    · cases f with
      | zero => rw [P] at hp; simp at hp
      | succ g =>
        subst hs
        obtain ⟨bb, hPb, hcase⟩ := loop_yes (n := 3) (by unfold isChain; omega) hp hji
        have HJn := join_any hr.drew hmore fn b1 hfn (AfterJ rb gl cl ts { s with i := a.i } bb) (fun w2 h1 F1 => by
          refine (hf g (by omega) { s with i := a.i + 1 } w2 a.L bb h1 HG.out hPb).mono ?_
          rintro e w2 ⟨b2, h2, h3, h4⟩
          exact ⟨b2, h2, h3, h4⟩)
        have HH : Hid _ := hcase
        have HP : Hid _ := hPb
        have HCo : Hid _ := hc
        have HR : Hid _ := hr
        unfold mv at HJn
        clear hct hji ht hjr hr hcase hPb hc hp hk0
        go_wp2_with fail
        refine HK.mono ?_
        rintro e w' ⟨rfl, rfl⟩
        go_wp2_with fail
        refine HCn.mono ?_
        rintro e w' ⟨rfl, rfl⟩
        go_wp2_with fail
        refine HJn.mono ?_
        rintro e w' ⟨b2, w3, rfl, hA, F3, rfl⟩
        clear HK HCn HJn
        have HA : Hid _ := hA
        have HF3 : Hid _ := F3
        clear hA F3
        go_wp2_with fail
        go_ret
        have hB := over_below w3 (tokAt ts a.i) [b1, b2]
        rw [← joinW_over] at hB
        refine ⟨_, rfl, (HF.out.drew.trans HF3.out).trans (PF.of_below hB), ?_⟩
        rcases HA.out with ⟨ok, h3, hc3⟩ | ⟨ok, h3⟩
        · have h4 := h3.below hB
          rcases HH.out with ⟨no, _⟩ | ⟨_, ⟨_, hput⟩ | ⟨no, _⟩⟩
          · rw [ok] at no; simp at no
          · subst hput
            refine .inl ⟨rfl, h4, ?_⟩
            rw [joinW_over]
            refine over_at h3.rlt rfl (by simp) fun j hj => ?_
            have hcx := more_at ((HCo.out.pf HR.out (PF.refl rb w1).drew).pf HR.out.drew HF3.out) (P_more HP.out ok (by omega))
            match j, hj with
            | 0, _ => exact hcx
            | 1, _ => exact hc3
          · exact absurd rfl no
        · have h4 := h3.below hB
          rcases HH.out with ⟨_, rfl⟩ | ⟨yes, _⟩
          · exact .inr ⟨ok, h4⟩
          · rw [ok] at yes; simp at yes
    · exfalso
      apply hk0
      have : s'.i = ts.length - 1 := by rw [hs]; rfl
      rw [this]; exact hr.fin
end Go.Proofs.YtfkdailfcmnjlaaGreatDoor

namespace Go.Proofs.YtfkdailfcmnjlaaGreatDoor
open Go Go.RowKit
set_option maxRecDepth 100000
attribute [local go_sem ↓] Go.wp_at_zero Go.wp_at_succ

theorem ent_single : Ent 286 := enters_of Tryz.func286 (by kernel_rfl) rfl
theorem ent_bracketed : Ent 285 := enters_of Tryz.func285 (by kernel_rfl) rfl
theorem ent_one : Ent 284 := enters_of Tryz.func284 (by kernel_rfl) rfl
theorem ent_sum : Ent 283 := enters_of Tryz.func283 (by kernel_rfl) rfl
theorem ent_compared : Ent 279 := enters_of Tryz.func279 (by kernel_rfl) rfl
theorem ent_negation : Ent 278 := enters_of Tryz.func278 (by kernel_rfl) rfl
theorem ent_part : Ent 267 := enters_of Tryz.func267 (by kernel_rfl) rfl
theorem ent_both : Ent 247 := enters_of Tryz.func247 (by kernel_rfl) rfl
theorem ent_choice : Ent 215 := enters_of Tryz.func215 (by kernel_rfl) rfl
theorem ent_whether : Ent 214 := enters_of Tryz.func214 (by kernel_rfl) rfl

theorem end_kind {rb gl cl : Nat} {ts : List Tok} {s : Q} {w : World} (h : RR rb gl cl ts s w) (hi : s.i = ts.length - 1) : kindOf (tokAt ts s.i) = 0 := by rw [hi]; exact h.fin

set_option maxHeartbeats 1000000 in
theorem one_end {rb gl cl : Nat} {ts : List Tok} : FormE 284 rb gl cl ts := by
  intro s w h hb hi
  have HF := fork_no h 3 285 286 (by rw [end_kind h hi]; omega) ent_single (fun b w' => PF rb w w' ∧ RR rb gl cl ts s w') ((single_end h.drew hb hi).mono fun e w' ⟨b, h1, h2, h3⟩ => ⟨b, h1, (PF.refl rb w).drew.trans h2, h3⟩)
  unfold mv at HF
  clear h hb hi
  go_enter Tryz.func284, Tryz.ntmps284
  go_wp2_with fail
  refine HF.mono ?_
  rintro e w' ⟨b, rfl, h1, h2⟩
  clear HF
  go_wp2_with fail
  go_ret
  exact ⟨b, rfl, h1, h2⟩

set_option maxHeartbeats 1000000 in
theorem sum_end {rb gl cl : Nat} {ts : List Tok} : FormE 283 rb gl cl ts := by
  intro s w h hb hi
  have hnew : (w.alloc (ksObj [6, 7])).heap[w.heap.size]? = some (ksObj [6, 7]) := heap_alloc_new w _
  have HF := chain_end (h.alloc (ksObj [6, 7])) hb hi 284 one_end ent_one [6, 7] (by decide) (by decide) w.heap.size hnew
  unfold mv at HF
  have HA : Hid (PF rb w (w.alloc (ksObj [6, 7]))) := (PF.refl rb w).alloc _
  clear h hb hi hnew
  go_enter Tryz.func283, Tryz.ntmps283
  go_wp2_with fail
  refine HF.mono ?_
  rintro e w' ⟨b, rfl, h1, h2⟩
  clear HF
  go_wp2_with fail
  go_ret
  exact ⟨b, rfl, HA.out.trans h1, h2⟩
set_option maxHeartbeats 1000000 in
theorem compared_end {rb gl cl : Nat} {ts : List Tok} : FormE 279 rb gl cl ts := by
  intro s w h hb hi
  have hnew : (w.alloc (ksObj [8, 10, 9])).heap[w.heap.size]? = some (ksObj [8, 10, 9]) := heap_alloc_new w _
  have HF := pair_end (h.alloc (ksObj [8, 10, 9])) hb hi 283 sum_end ent_sum [8, 10, 9] (by decide) (by decide) w.heap.size hnew
  unfold mv at HF
  have HA : Hid (PF rb w (w.alloc (ksObj [8, 10, 9]))) := (PF.refl rb w).alloc _
  clear h hb hi hnew
  go_enter Tryz.func279, Tryz.ntmps279
  go_wp2_with fail
  refine HF.mono ?_
  rintro e w' ⟨b, rfl, h1, h2⟩
  clear HF
  go_wp2_with fail
  go_ret
  exact ⟨b, rfl, HA.out.trans h1, h2⟩

set_option maxHeartbeats 1000000 in
theorem part_end {rb gl cl : Nat} {ts : List Tok} : FormE 267 rb gl cl ts := by
  intro s w h hb hi
  have HF := fork_no h 19 278 279 (by rw [end_kind h hi]; omega) ent_compared (fun b w' => PF rb w w' ∧ RR rb gl cl ts s w') ((compared_end s _ h.drew hb hi).mono fun e w' ⟨b, h1, h2, h3⟩ => ⟨b, h1, (PF.refl rb w).drew.trans h2, h3⟩)
  unfold mv at HF
  clear h hb hi
  go_enter Tryz.func267, Tryz.ntmps267
  go_wp2_with fail
  refine HF.mono ?_
  rintro e w' ⟨b, rfl, h1, h2⟩
  clear HF
  go_wp2_with fail
  go_ret
  exact ⟨b, rfl, h1, h2⟩

set_option maxHeartbeats 1000000 in
theorem both_end {rb gl cl : Nat} {ts : List Tok} : FormE 247 rb gl cl ts := by
  intro s w h hb hi
  have hnew : (w.alloc (ksObj [18])).heap[w.heap.size]? = some (ksObj [18]) := heap_alloc_new w _
  have HF := chain_end (h.alloc (ksObj [18])) hb hi 267 part_end ent_part [18] (by decide) (by decide) w.heap.size hnew
  unfold mv at HF
  have HA : Hid (PF rb w (w.alloc (ksObj [18]))) := (PF.refl rb w).alloc _
  clear h hb hi hnew
  go_enter Tryz.func247, Tryz.ntmps247
  go_wp2_with fail
  refine HF.mono ?_
  rintro e w' ⟨b, rfl, h1, h2⟩
  clear HF
  go_wp2_with fail
  go_ret
  exact ⟨b, rfl, HA.out.trans h1, h2⟩

set_option maxHeartbeats 1000000 in
theorem choice_end {rb gl cl : Nat} {ts : List Tok} : FormE 215 rb gl cl ts := by
  intro s w h hb hi
  have hnew : (w.alloc (ksObj [17])).heap[w.heap.size]? = some (ksObj [17]) := heap_alloc_new w _
  have HF := chain_end (h.alloc (ksObj [17])) hb hi 247 both_end ent_both [17] (by decide) (by decide) w.heap.size hnew
  unfold mv at HF
  have HA : Hid (PF rb w (w.alloc (ksObj [17]))) := (PF.refl rb w).alloc _
  clear h hb hi hnew
  go_enter Tryz.func215, Tryz.ntmps215
  go_wp2_with fail
  refine HF.mono ?_
  rintro e w' ⟨b, rfl, h1, h2⟩
  clear HF
  go_wp2_with fail
  go_ret
  exact ⟨b, rfl, HA.out.trans h1, h2⟩

set_option maxHeartbeats 1000000 in
theorem condition_end {rb gl cl : Nat} {ts : List Tok} : FormE 152 rb gl cl ts := by
  intro s w h hb hi
  have HF := fork_no h 14 214 215 (by rw [end_kind h hi]; omega) ent_choice (fun b w' => PF rb w w' ∧ RR rb gl cl ts s w') ((choice_end s _ h.drew hb hi).mono fun e w' ⟨b, h1, h2, h3⟩ => ⟨b, h1, (PF.refl rb w).drew.trans h2, h3⟩)
  unfold mv at HF
  clear h hb hi
  go_enter Tryz.func152, Tryz.ntmps152
  go_wp2_with fail
  refine HF.mono ?_
  rintro e w' ⟨b, rfl, h1, h2⟩
  clear HF
  go_wp2_with fail
  go_ret
  exact ⟨b, rfl, h1, h2⟩
end Go.Proofs.YtfkdailfcmnjlaaGreatDoor

namespace Go.Proofs.YtfkdailfcmnjlaaGreatDoor
open Go Go.RowKit
set_option maxRecDepth 100000
attribute [local go_sem ↓] Go.wp_at_zero Go.wp_at_succ

/-- 'want' with kinds that a variadic call lays. -/
theorem want_new {rb gl cl : Nat} {ts : List Tok} {s : Q} {w : World} (h : RR rb gl cl ts s w) (ks : List Nat) (hl : ks.length ≤ 100) (h0 : 0 ∉ ks) :
    Calls Tryz.prog 151 #[.pointer (some ⟨rb, 0, none⟩), .slice (some ⟨w.heap.size, 0, none⟩) ks.length ks.length] (w.alloc (ksObj ks)) fun e w' => e = .returned (wantV ts s ks) ∧ RR rb gl cl ts (wantQ ts s ks) w' ∧ PF rb w w' :=
  (want_any (h.alloc (ksObj ks)) ks w.heap.size hl h0 (ks_cells (heap_alloc_new w _))).mono fun e w' ⟨h1, h2, h3⟩ => ⟨h1, h2, ((PF.refl rb w).alloc _).trans h3⟩
theorem wantQ_yes {ts : List Tok} {s : Q} {ks : List Nat} (h : ks.contains (kindOf (tokAt ts s.i)) = true) : wantQ ts s ks = { s with i := s.i + 1 } := by unfold wantQ; rw [if_pos h]
theorem wantQ_no {ts : List Tok} {s : Q} {ks : List Nat} (h : ks.contains (kindOf (tokAt ts s.i)) = false) : wantQ ts s ks = failQ ts s := by unfold wantQ; rw [h]; rfl
theorem failQ_twice (ts : List Tok) (s : Q) : failQ ts (failQ ts s) = failQ ts s := by unfold failQ; simp
theorem one_contains (k x : Nat) : [k].contains x = decide (x = k) := by
  rw [Bool.eq_iff_iff, List.contains_iff_mem]; simp

set_option maxHeartbeats 2000000 in
theorem bracketed_any {f rb gl cl : Nat} {ts : List Tok} {s : Q} {w : World} (hf : FormOK f 152 6 rb gl cl ts) (h : RR rb gl cl ts s w) (hW : ∀ t ∈ ts, TokW t) (hgood : s.bad = false) (hk : kindOf (tokAt ts s.i) = 3) {g : Nat} (hg : g ≤ f) {L : List Pt} {a r : Rd} (hPa : P g 6 ts (s.i + 1) L 0 = some a)
    (hr : (a.ok = true ∧ isW (tokAt ts a.i) [41] = true ∧ r = { a with i := a.i + 1 }) ∨ (¬ (a.ok = true ∧ isW (tokAt ts a.i) [41] = true) ∧ r.ok = false ∧ r.i = a.i)) :
    Calls Tryz.prog 285 #[.pointer (some ⟨rb, 0, none⟩)] w (LeftC rb gl cl ts s w r) := by
  have HW1 := want_new h [3] (by decide) (by decide)
  rw [wantQ_yes (by rw [one_contains, hk]; rfl)] at HW1
  have HR : Hid _ := hr
  have HP : Hid _ := hPa
  have HG : Hid _ := hgood
  clear h hk hr hPa hgood
  generalize wantV ts s [3] = wv at *
  go_enter Tryz.func285, Tryz.ntmps285
  go_wp2_with fail
  refine HW1.mono ?_
  rintro e w1 ⟨rfl, h1, F1⟩
  clear HW1
  go_wp2_with fail
  refine (hf g hg _ w1 L a h1 HG.out HP.out).mono ?_
  rintro e w2 ⟨b, rfl, F2, hL⟩
  have hst : ∃ s2, RR rb gl cl ts s2 w2 ∧ ((a.ok = true ∧ s2 = { s with i := a.i } ∧ CondAt a.L rb w2 a.top b) ∨ (a.ok = false ∧ s2 = failQ ts { s with i := a.i })) := by
    rcases hL with ⟨ok, hr, hc⟩ | ⟨ok, hr⟩
    · exact ⟨_, hr, .inl ⟨ok, rfl, hc⟩⟩
    · exact ⟨_, hr, .inr ⟨ok, rfl⟩⟩
  obtain ⟨s2, h2, hst⟩ := hst
  have HW2 := want_new h2 [4] (by decide) (by decide)
  have hQ : Hid (wantQ ts s2 [4] = wantQ ts s2 [4]) := rfl
  have HF2 : Hid _ := F1.trans F2
  have HST : Hid _ := hst
  have H2 : Hid _ := h2
  clear hL F1 F2 h1 hst h2
  generalize wantV ts s2 [4] = wv2 at *
  go_wp2_with fail
  refine HW2.mono ?_
  rintro e w3 ⟨rfl, h3, F3⟩
  clear HW2
  go_wp2_with fail
  go_ret
  refine ⟨b, rfl, HF2.out.trans F3, ?_⟩
  have ht := hW _ (tokAt_mem H2.out.lt)
  have hiw := isW_iff ht (x := [41]) (by decide)
  rw [show kn [41] = 4 from by decide] at hiw
  rcases HST.out with ⟨ok, rfl, hc⟩ | ⟨ok, rfl⟩
  · simp only [] at hiw h3 hc ht
    rcases HR.out with ⟨_, hw, rfl⟩ | ⟨hno, rok, ri⟩
    · rw [wantQ_yes (by rw [one_contains]; simpa using hiw.1 hw)] at h3
      exact .inl ⟨ok, h3, hc.pf H2.out F3⟩
    · have hnw : ¬ isW (tokAt ts a.i) [41] = true := fun e => hno ⟨ok, e⟩
      rw [wantQ_no (by rw [one_contains]; simpa using fun e => hnw (hiw.2 e))] at h3
      exact .inr ⟨rok, by rw [ri]; exact h3⟩
  · rcases HR.out with ⟨yes, _⟩ | ⟨_, rok, ri⟩
    · rw [ok] at yes; simp at yes
    · rw [wantQ_no (by rw [one_contains, end_kind H2.out rfl]; rfl), failQ_twice] at h3
      exact .inr ⟨rok, by rw [ri]; exact h3⟩
end Go.Proofs.YtfkdailfcmnjlaaGreatDoor
