/-
  The program's Mean of a policy is the plain function's.
-/
import Derived.Test.YtfkdailfcmnjlaaGreatDoorMI
import Derived.Deep.RegionHeld3
import Derived.Deep.RegionLaw
set_option linter.unusedVariables false
set_option linter.unusedSimpArgs false
namespace Go.Proofs.YtfkdailfcmnjlaaGreatDoor
open Go Go.RowKit
set_option maxRecDepth 100000
attribute [local go_sem ↓] Go.wp_at_zero Go.wp_at_succ

set_option maxHeartbeats 1000000 in
theorem ptruth_any (b : Bool) (w : World) : Calls Tryz.prog 82 #[.bool b] w fun e w' => e = .returned (.int .i64 (truthI b)) ∧ w' = w := by
  cases b
  all_goals
    go_enter Tryz.func82, Tryz.ntmps82
    go_wp2_with fail
    go_ret
    exact ⟨rfl, rfl⟩
set_option maxHeartbeats 1000000 in
theorem pmember_any (n : Int) (w : World) : Calls Tryz.prog 81 #[.int .i64 n] w fun e w' => e = .returned (.int .i64 (knownI n)) ∧ w' = w := by
  by_cases h0 : n < 0
  · have HC : Hid (knownI n = 0) := by show _ = _; unfold knownI; rw [if_pos (.inl h0)]
    go_enter Tryz.func81, Tryz.ntmps81
    go_wp2_with fail
    go_ret
    exact ⟨by rw [HC.out]; rfl, rfl⟩
  · by_cases h4 : 4 < n
    · have HC : Hid (knownI n = 0) := by show _ = _; unfold knownI; rw [if_pos (.inr h4)]
      go_enter Tryz.func81, Tryz.ntmps81
      go_wp2_with fail
      go_ret
      exact ⟨by rw [HC.out]; rfl, rfl⟩
    · have HC : Hid (knownI n = n) := by show _ = _; unfold knownI; rw [if_neg (by omega)]
      go_enter Tryz.func81, Tryz.ntmps81
      go_wp2_with fail
      go_ret
      exact ⟨by rw [HC.out]; rfl, rfl⟩

set_option maxHeartbeats 1000000 in
theorem pequal_any (a b : Int) (w : World) : Calls Tryz.prog 166 #[.int .i64 a, .int .i64 b] w fun e w' => e = .returned (.int .i64 (truthI (a == b))) ∧ w' = w := by
  have W1 := fun w => ptruth_any (a == b) w
  generalize hv : truthI (a == b) = r at *
  clear hv
  go_enter Tryz.func166, Tryz.ntmps166
  go_wp2_with fail
  refine (W1 _).mono ?_
  rintro e w1 ⟨rfl, rfl⟩
  clear W1
  go_wp2_with fail
  go_ret
  exact ⟨rfl, rfl⟩

set_option maxHeartbeats 1000000 in
theorem pless_any (a b : Int) (w : World) : Calls Tryz.prog 167 #[.int .i64 a, .int .i64 b] w fun e w' => e = .returned (.int .i64 (truthI (decide (a < b)))) ∧ w' = w := by
  have W1 := fun w => ptruth_any (decide (a < b)) w
  generalize hv : truthI (decide (a < b)) = r at *
  clear hv
  go_enter Tryz.func167, Tryz.ntmps167
  go_wp2_with fail
  refine (W1 _).mono ?_
  rintro e w1 ⟨rfl, rfl⟩
  clear W1
  go_wp2_with fail
  go_ret
  exact ⟨rfl, rfl⟩

set_option maxHeartbeats 1000000 in
theorem patmost_any (a b : Int) (w : World) : Calls Tryz.prog 168 #[.int .i64 a, .int .i64 b] w fun e w' => e = .returned (.int .i64 (truthI (decide (a ≤ b)))) ∧ w' = w := by
  have W1 := fun w => ptruth_any (decide (a ≤ b)) w
  generalize hv : truthI (decide (a ≤ b)) = r at *
  clear hv
  go_enter Tryz.func168, Tryz.ntmps168
  go_wp2_with fail
  refine (W1 _).mono ?_
  rintro e w1 ⟨rfl, rfl⟩
  clear W1
  go_wp2_with fail
  go_ret
  exact ⟨rfl, rfl⟩

set_option maxHeartbeats 1000000 in
theorem pand_any (a b : Int) (w : World) : Calls Tryz.prog 169 #[.int .i64 a, .int .i64 b] w fun e w' => e = .returned (.int .i64 (truthI (a == 1 && b == 1))) ∧ w' = w := by
  have W1 := fun w b => ptruth_any b w
  cases hx : (a == 1)
  all_goals
    cases hy : (b == 1)
  all_goals
    go_enter Tryz.func169, Tryz.ntmps169
    go_wp2_with fail
    refine (W1 _ _).mono ?_
    rintro e w1 ⟨rfl, rfl⟩
    clear W1
    go_wp2_with fail
    go_ret
    exact ⟨rfl, rfl⟩

set_option maxHeartbeats 1000000 in
theorem por_any (a b : Int) (w : World) : Calls Tryz.prog 170 #[.int .i64 a, .int .i64 b] w fun e w' => e = .returned (.int .i64 (truthI (a == 1 || b == 1))) ∧ w' = w := by
  have W1 := fun w b => ptruth_any b w
  cases hx : (a == 1)
  all_goals
    cases hy : (b == 1)
  all_goals
    go_enter Tryz.func170, Tryz.ntmps170
    go_wp2_with fail
    refine (W1 _ _).mono ?_
    rintro e w1 ⟨rfl, rfl⟩
    clear W1
    go_wp2_with fail
    go_ret
    exact ⟨rfl, rfl⟩

set_option maxHeartbeats 1000000 in
theorem pnot_any {a : Int} (ha : a = 0 ∨ a = 1) (w : World) : Calls Tryz.prog 125 #[.int .i64 a] w fun e w' => e = .returned (.int .i64 (1 - a)) ∧ w' = w := by
  have W1 := fun w b => ptruth_any b w
  rcases ha with rfl | rfl
  all_goals
    go_enter Tryz.func125, Tryz.ntmps125
    go_wp2_with fail
    refine (W1 _ _).mono ?_
    rintro e w1 ⟨rfl, rfl⟩
    clear W1
    go_wp2_with fail
    go_ret
    exact ⟨rfl, rfl⟩
end Go.Proofs.YtfkdailfcmnjlaaGreatDoor

namespace Go.Proofs.YtfkdailfcmnjlaaGreatDoor
open Go Go.RowKit
set_option maxRecDepth 100000
attribute [local go_sem ↓] Go.wp_at_zero Go.wp_at_succ

theorem wrap_over {x : Int} (h : 9223372036854775807 < x) (h2 : x ≤ 18446744073709551615) : IntKind.i64.wrap x = x - 18446744073709551616 := by
  simp [IntKind.wrap, IntKind.signed, IntKind.bits]
  omega
theorem wrap_under {x : Int} (h : x < -9223372036854775808) (h2 : -18446744073709551616 ≤ x) : IntKind.i64.wrap x = x + 18446744073709551616 := by
  simp [IntKind.wrap, IntKind.signed, IntKind.bits]
  omega

set_option maxHeartbeats 2000000 in
theorem padd_any {a b : Int} (ha : In64 a) (hb : In64 b) (w : World) : Calls Tryz.prog 164 #[.int .i64 a, .int .i64 b] w fun e w' => e = .returned (.int .i64 (clampI (a + b))) ∧ w' = w := by
  unfold In64 at ha hb
  by_cases h1 : 9223372036854775807 < a + b
  · have HC : Hid (clampI (a + b) = 9223372036854775807) := by show _ = _; unfold clampI; rw [if_pos h1]
    have w3 := wrap_over h1 (by omega)
    have a1 : 0 ≤ a := by omega
    have a2 : 0 ≤ b := by omega
    have a3 : a + b - 18446744073709551616 < 0 := by omega
    go_enter Tryz.func164, Tryz.ntmps164
    go_wp2_with fail
    go_ret
    exact ⟨by rw [HC.out]; rfl, rfl⟩
  · by_cases h2 : a + b < -9223372036854775808
    · have HC : Hid (clampI (a + b) = -9223372036854775808) := by show _ = _; unfold clampI; rw [if_neg h1, if_pos h2]
      have w3 := wrap_under h2 (by omega)
      have a1 : a < 0 := by omega
      have a2 : b < 0 := by omega
      have a3 : 0 ≤ a + b + 18446744073709551616 := by omega
      go_enter Tryz.func164, Tryz.ntmps164
      go_wp2_with fail
      go_ret
      exact ⟨by rw [HC.out]; rfl, rfl⟩
    · have HC : Hid (clampI (a + b) = a + b) := by show _ = _; unfold clampI; rw [if_neg h1, if_neg h2]
      have w3 : IntKind.i64.wrap (a + b) = a + b := wrap64 (by unfold In64; omega)
      by_cases a1 : 0 ≤ a
      · by_cases a2 : 0 ≤ b
        · have _h := 0
          go_enter Tryz.func164, Tryz.ntmps164
          go_wp2_with fail
          go_ret
          exact ⟨by rw [HC.out]; rfl, rfl⟩
        · have _h := 0
          go_enter Tryz.func164, Tryz.ntmps164
          go_wp2_with fail
          go_ret
          exact ⟨by rw [HC.out]; rfl, rfl⟩
      · by_cases a2 : 0 ≤ b
        · have _h := 0
          go_enter Tryz.func164, Tryz.ntmps164
          go_wp2_with fail
          go_ret
          exact ⟨by rw [HC.out]; rfl, rfl⟩
        · have _h := 0
          go_enter Tryz.func164, Tryz.ntmps164
          go_wp2_with fail
          go_ret
          exact ⟨by rw [HC.out]; rfl, rfl⟩

set_option maxHeartbeats 2000000 in
theorem psub_any {a b : Int} (ha : In64 a) (hb : In64 b) (w : World) : Calls Tryz.prog 165 #[.int .i64 a, .int .i64 b] w fun e w' => e = .returned (.int .i64 (clampI (a - b))) ∧ w' = w := by
  unfold In64 at ha hb
  by_cases h1 : 9223372036854775807 < a - b
  · have HC : Hid (clampI (a - b) = 9223372036854775807) := by show _ = _; unfold clampI; rw [if_pos h1]
    have w3 := wrap_over h1 (by omega)
    have a1 : 0 ≤ a := by omega
    have a2 : b < 0 := by omega
    have a3 : a - b - 18446744073709551616 < 0 := by omega
    go_enter Tryz.func165, Tryz.ntmps165
    go_wp2_with fail
    go_ret
    exact ⟨by rw [HC.out]; rfl, rfl⟩
  · by_cases h2 : a - b < -9223372036854775808
    · have HC : Hid (clampI (a - b) = -9223372036854775808) := by show _ = _; unfold clampI; rw [if_neg h1, if_pos h2]
      have w3 := wrap_under h2 (by omega)
      have a1 : a < 0 := by omega
      have a2 : 0 ≤ b := by omega
      have a3 : 0 ≤ a - b + 18446744073709551616 := by omega
      go_enter Tryz.func165, Tryz.ntmps165
      go_wp2_with fail
      go_ret
      exact ⟨by rw [HC.out]; rfl, rfl⟩
    · have HC : Hid (clampI (a - b) = a - b) := by show _ = _; unfold clampI; rw [if_neg h1, if_neg h2]
      have w3 : IntKind.i64.wrap (a - b) = a - b := wrap64 (by unfold In64; omega)
      by_cases a1 : 0 ≤ a
      · by_cases a2 : 0 ≤ b
        · have _h := 0
          go_enter Tryz.func165, Tryz.ntmps165
          go_wp2_with fail
          go_ret
          exact ⟨by rw [HC.out]; rfl, rfl⟩
        · have _h := 0
          go_enter Tryz.func165, Tryz.ntmps165
          go_wp2_with fail
          go_ret
          exact ⟨by rw [HC.out]; rfl, rfl⟩
      · by_cases a2 : 0 ≤ b
        · have _h := 0
          go_enter Tryz.func165, Tryz.ntmps165
          go_wp2_with fail
          go_ret
          exact ⟨by rw [HC.out]; rfl, rfl⟩
        · have _h := 0
          go_enter Tryz.func165, Tryz.ntmps165
          go_wp2_with fail
          go_ret
          exact ⟨by rw [HC.out]; rfl, rfl⟩
end Go.Proofs.YtfkdailfcmnjlaaGreatDoor

namespace Go.Proofs.YtfkdailfcmnjlaaGreatDoor
open Go Go.RowKit
set_option maxRecDepth 100000
attribute [local go_sem ↓] Go.wp_at_zero Go.wp_at_succ

set_option maxHeartbeats 4000000 in
theorem tellOver_any {x : List UInt8} (hx : x ∈ ([[43], [45], [60], [60, 61], [61], [111, 114], [97, 110, 100]] : List (List UInt8))) {a b : Int} (ha : In64 a) (hb : In64 b) (w : World) :
    Calls Tryz.prog 126 #[.int .i64 (kn x), .int .i64 a, .int .i64 b] w fun e w' => e = .returned (.int .i64 (twoI x a b)) ∧ w' = w := by
  simp only [List.mem_cons, List.not_mem_nil, or_false] at hx
  rcases hx with rfl | rfl | rfl | rfl | rfl | rfl | rfl
  · have HC : Hid (twoI [43] a b = clampI (a + b)) := rfl
    have W1 := fun W => padd_any ha hb W
    rw [show kn [43] = 6 from by decide]
    generalize clampI (a + b) = r at *
    go_enter Tryz.func126, Tryz.ntmps126
    go_wp2_with fail
    refine (W1 _).mono ?_
    rintro e w1 ⟨rfl, rfl⟩
    clear W1
    go_wp2_with fail
    go_ret
    exact ⟨by rw [HC.out]; rfl, rfl⟩
  · have HC : Hid (twoI [45] a b = clampI (a - b)) := rfl
    have W1 := fun W => psub_any ha hb W
    rw [show kn [45] = 7 from by decide]
    generalize clampI (a - b) = r at *
    go_enter Tryz.func126, Tryz.ntmps126
    go_wp2_with fail
    refine (W1 _).mono ?_
    rintro e w1 ⟨rfl, rfl⟩
    clear W1
    go_wp2_with fail
    go_ret
    exact ⟨by rw [HC.out]; rfl, rfl⟩
  · have HC : Hid (twoI [60] a b = truthI (decide (a < b))) := rfl
    have W1 := fun W => pless_any a b W
    rw [show kn [60] = 10 from by decide]
    generalize truthI (decide (a < b)) = r at *
    go_enter Tryz.func126, Tryz.ntmps126
    go_wp2_with fail
    refine (W1 _).mono ?_
    rintro e w1 ⟨rfl, rfl⟩
    clear W1
    go_wp2_with fail
    go_ret
    exact ⟨by rw [HC.out]; rfl, rfl⟩
  · have HC : Hid (twoI [60, 61] a b = truthI (decide (a ≤ b))) := rfl
    have W1 := fun W => patmost_any a b W
    rw [show kn [60, 61] = 9 from by decide]
    generalize truthI (decide (a ≤ b)) = r at *
    go_enter Tryz.func126, Tryz.ntmps126
    go_wp2_with fail
    refine (W1 _).mono ?_
    rintro e w1 ⟨rfl, rfl⟩
    clear W1
    go_wp2_with fail
    go_ret
    exact ⟨by rw [HC.out]; rfl, rfl⟩
  · have HC : Hid (twoI [61] a b = truthI (a == b)) := rfl
    have W1 := fun W => pequal_any a b W
    rw [show kn [61] = 8 from by decide]
    generalize truthI (a == b) = r at *
    go_enter Tryz.func126, Tryz.ntmps126
    go_wp2_with fail
    refine (W1 _).mono ?_
    rintro e w1 ⟨rfl, rfl⟩
    clear W1
    go_wp2_with fail
    go_ret
    exact ⟨by rw [HC.out]; rfl, rfl⟩
  · have HC : Hid (twoI [111, 114] a b = truthI (a == 1 || b == 1)) := rfl
    have W1 := fun W => por_any a b W
    rw [show kn [111, 114] = 17 from by decide]
    generalize truthI (a == 1 || b == 1) = r at *
    go_enter Tryz.func126, Tryz.ntmps126
    go_wp2_with fail
    refine (W1 _).mono ?_
    rintro e w1 ⟨rfl, rfl⟩
    clear W1
    go_wp2_with fail
    go_ret
    exact ⟨by rw [HC.out]; rfl, rfl⟩
  · have HC : Hid (twoI [97, 110, 100] a b = truthI (a == 1 && b == 1)) := rfl
    have W1 := fun W => pand_any a b W
    rw [show kn [97, 110, 100] = 18 from by decide]
    generalize truthI (a == 1 && b == 1) = r at *
    go_enter Tryz.func126, Tryz.ntmps126
    go_wp2_with fail
    refine (W1 _).mono ?_
    rintro e w1 ⟨rfl, rfl⟩
    clear W1
    go_wp2_with fail
    go_ret
    exact ⟨by rw [HC.out]; rfl, rfl⟩
end Go.Proofs.YtfkdailfcmnjlaaGreatDoor

namespace Go.Proofs.YtfkdailfcmnjlaaGreatDoor
open Go Go.RowKit
set_option maxRecDepth 100000
attribute [local go_sem ↓] Go.wp_at_zero Go.wp_at_succ

set_option maxHeartbeats 4000000 in
theorem plevel_any {lv mv : Value} {df : Int} {op : Bool} {ls : List (List UInt8 × Int)} (u : List UInt8) (w : World) (h : PairsAt lv ls w) :
    Calls Tryz.prog 79 #[.agg #[lv, .int .i64 df, mv, .bool op], S u] w fun e w' => e = .returned (.int .i64 (firstI df ls u)) ∧ Below w.heap.size w w' := by
  obtain ⟨hm, a, cap, rfl, hc⟩ := h
  unfold maxLen at hm
  have hb := (Below.refl w.heap.size w).alloc (Nat.le_refl _) (.cells #[.slice a ls.length cap, .int .i64 df, mv, .bool op] 50)
  have hx : (w.alloc (.cells #[.slice a ls.length cap, .int .i64 df, mv, .bool op] 50)).heap[w.heap.size]? = some (.cells #[.slice a ls.length cap, .int .i64 df, mv, .bool op] 50 (0, 0)) := heap_alloc_new w _
  have H0 : Hid _ := And.intro hb hx
  have HC : Hid _ := hc
  clear hb hx hc
  go_enter Tryz.func79, Tryz.ntmps79
  go_wp2_with fail
  obtain ⟨hb0, hx0⟩ := H0.out
  clear H0
  generalize w.alloc (.cells #[.slice a ls.length cap, .int .i64 df, mv, .bool op] 50) = wz at *
  go_loopw [10] (fun i wr => ∃ j, j ≤ ls.length ∧ i = .int .i64 j ∧ Hid (firstI df ls u = firstI df (ls.drop j) u) ∧ Below w.heap.size w wr ∧ wr.heap[w.heap.size]? = some (.cells #[.slice a ls.length cap, .int .i64 df, mv, .bool op] 50 (0, 0))) (fun i _ => ls.length - (intOf i).toNat)
  case atStart => exact ⟨0, Nat.zero_le _, rfl, rfl, hb0, hx0⟩
  case round =>
    obtain ⟨j, hj, rfl, HV, hbw, hxw⟩ := hrel
    have q1 := cell_of_row wr w.heap.size 1 _ _ _ hxw
    simp only [List.getElem?_toArray, List.getElem?_cons_zero, List.getElem?_cons_succ] at q1
    clear hb0 hx0
    by_cases hlt : j < ls.length
    · obtain ⟨b, o, rfl, c0, c1, hn⟩ := HC.out j hlt
      have HS : Hid _ := first_step df ls u j hlt
      have c0' : wr.cell? ⟨b, o + j * 2, none⟩ = some (S (ls.getD j ([], 0)).1) := by rw [hbw.cell (p := ⟨b, o + j * 2, none⟩) (World.block_lt_of_cell? w _ c0)]; exact c0
      have c1' : wr.cell? ⟨b, o + j * 2 + 1, none⟩ = some (.int .i64 (ls.getD j ([], 0)).2) := by rw [hbw.cell (p := ⟨b, o + j * 2 + 1, none⟩) (World.block_lt_of_cell? w _ c1)]; exact c1
      have lb := World.block_lt_of_cell? wr _ c0'
      simp only at lb
      have b0 : (0 : Int) ≤ (j : Int) := by omega
      have b1 : (j : Int) < (ls.length : Int) := by omega
      have ne1 : wr.heap.size ≠ b := by omega
      clear c0 c1
      generalize ls.getD j ([], 0) = x at *
      have hbA : Hid (Below w.heap.size w (wr.alloc (.cells #[S x.1, .int .i64 x.2] 108))) := hbw.alloc hbw.size _
      have hxA : Hid ((wr.alloc (.cells #[S x.1, .int .i64 x.2] 108)).heap[w.heap.size]? = some (.cells #[.slice (some ⟨b, o, none⟩) ls.length cap, .int .i64 df, mv, .bool op] 50 (0, 0))) := by show _ = _; rw [Below.heap_alloc _ _ _ (lt_of_get hxw)]; exact hxw
      clear hbw hxw
      cases hx : (x.1 == u) with
      | true =>
        have HS2 : Hid (firstI df ls u = x.2) := by show _ = _; rw [HV.out, HS.out, if_pos hx]
        clear HS HV
        go_wp2_with fail
        go_ret
        exact ⟨by rw [HS2.out]; rfl, hbA.out⟩
      | false =>
        have HS2 : Hid (firstI df ls u = firstI df (ls.drop (j + 1)) u) := by show _ = _; rw [HV.out, HS.out, if_neg (by rw [hx]; simp)]
        clear HS HV
        go_wp2_with fail
        go_roundw
        case rel => exact ⟨j + 1, by omega, by simp, HS2.out, hbA.out, hxA.out⟩
        case measure => simp [intOf]; omega
    · have hje : j = ls.length := by omega
      subst hje
      have HE : Hid (firstI df ls u = df) := by show _ = _; rw [HV.out, List.drop_length]; rfl
      have HB : Hid _ := hbw
      clear HV hbw
      go_wp2_with fail
      go_ret
      exact ⟨by rw [HE.out]; rfl, HB.out⟩

set_option maxHeartbeats 4000000 in
theorem pstanding_any {lv mv : Value} {df : Int} {op : Bool} {ls : List (List UInt8 × Int)} (u : List UInt8) (w : World) (h : PairsAt mv ls w) :
    Calls Tryz.prog 80 #[.agg #[lv, .int .i64 df, mv, .bool op], S u] w fun e w' => e = .returned (.int .i64 (firstK ls u)) ∧ Below w.heap.size w w' := by
  obtain ⟨hm, a, cap, rfl, hc⟩ := h
  unfold maxLen at hm
  have hb := (Below.refl w.heap.size w).alloc (Nat.le_refl _) (.cells #[lv, .int .i64 df, .slice a ls.length cap, .bool op] 50)
  have hx : (w.alloc (.cells #[lv, .int .i64 df, .slice a ls.length cap, .bool op] 50)).heap[w.heap.size]? = some (.cells #[lv, .int .i64 df, .slice a ls.length cap, .bool op] 50 (0, 0)) := heap_alloc_new w _
  have H0 : Hid _ := And.intro hb hx
  have HC : Hid _ := hc
  clear hb hx hc
  go_enter Tryz.func80, Tryz.ntmps80
  go_wp2_with fail
  obtain ⟨hb0, hx0⟩ := H0.out
  clear H0
  generalize w.alloc (.cells #[lv, .int .i64 df, .slice a ls.length cap, .bool op] 50) = wz at *
  go_loopw [10] (fun i wr => ∃ j, j ≤ ls.length ∧ i = .int .i64 j ∧ Hid (firstK ls u = firstK (ls.drop j) u) ∧ Below w.heap.size w wr ∧ wr.heap[w.heap.size]? = some (.cells #[lv, .int .i64 df, .slice a ls.length cap, .bool op] 50 (0, 0))) (fun i _ => ls.length - (intOf i).toNat)
  case atStart => exact ⟨0, Nat.zero_le _, rfl, rfl, hb0, hx0⟩
  case round =>
    obtain ⟨j, hj, rfl, HV, hbw, hxw⟩ := hrel
    have q1 := cell_of_row wr w.heap.size 1 _ _ _ hxw
    simp only [List.getElem?_toArray, List.getElem?_cons_zero, List.getElem?_cons_succ] at q1
    clear hb0 hx0
    by_cases hlt : j < ls.length
    · obtain ⟨b, o, rfl, c0, c1, hn⟩ := HC.out j hlt
      have HS : Hid _ := firstK_step ls u j hlt
      have c0' : wr.cell? ⟨b, o + j * 2, none⟩ = some (S (ls.getD j ([], 0)).1) := by rw [hbw.cell (p := ⟨b, o + j * 2, none⟩) (World.block_lt_of_cell? w _ c0)]; exact c0
      have c1' : wr.cell? ⟨b, o + j * 2 + 1, none⟩ = some (.int .i64 (ls.getD j ([], 0)).2) := by rw [hbw.cell (p := ⟨b, o + j * 2 + 1, none⟩) (World.block_lt_of_cell? w _ c1)]; exact c1
      have lb := World.block_lt_of_cell? wr _ c0'
      simp only at lb
      have b0 : (0 : Int) ≤ (j : Int) := by omega
      have b1 : (j : Int) < (ls.length : Int) := by omega
      have ne1 : wr.heap.size ≠ b := by omega
      clear c0 c1
      generalize ls.getD j ([], 0) = x at *
      have hbA : Hid (Below w.heap.size w (wr.alloc (.cells #[S x.1, .int .i64 x.2] 110))) := hbw.alloc hbw.size _
      have hxA : Hid ((wr.alloc (.cells #[S x.1, .int .i64 x.2] 110)).heap[w.heap.size]? = some (.cells #[lv, .int .i64 df, .slice (some ⟨b, o, none⟩) ls.length cap, .bool op] 50 (0, 0))) := by show _ = _; rw [Below.heap_alloc _ _ _ (lt_of_get hxw)]; exact hxw
      clear hbw hxw
      cases hx : (x.1 == u) with
      | true =>
        have HS2 : Hid (firstK ls u = knownI x.2) := by show _ = _; rw [HV.out, HS.out, if_pos hx]
        have WK := fun W => pmember_any x.2 W
        generalize knownI x.2 = kx at *
        clear HS HV
        go_wp2_with fail
        refine (WK _).mono ?_
        rintro e w5 ⟨rfl, rfl⟩
        clear WK
        go_wp2_with fail
        go_ret
        exact ⟨by rw [HS2.out]; rfl, hbA.out⟩
      | false =>
        have HS2 : Hid (firstK ls u = firstK (ls.drop (j + 1)) u) := by show _ = _; rw [HV.out, HS.out, if_neg (by rw [hx]; simp)]
        clear HS HV
        go_wp2_with fail
        go_roundw
        case rel => exact ⟨j + 1, by omega, by simp, HS2.out, hbA.out, hxA.out⟩
        case measure => simp [intOf]; omega
    · have hje : j = ls.length := by omega
      subst hje
      have HE : Hid (firstK ls u = 0) := by show _ = _; rw [HV.out, List.drop_length]; rfl
      have HB : Hid _ := hbw
      clear HV hbw
      go_wp2_with fail
      go_ret
      exact ⟨by rw [HE.out]; rfl, HB.out⟩
end Go.Proofs.YtfkdailfcmnjlaaGreatDoor

namespace Go.Proofs.YtfkdailfcmnjlaaGreatDoor
open Go Go.RowKit
set_option maxRecDepth 100000

/-- What the lets among items tell. -/
def letVals : List Itm → List Int → List Int
  | x :: r, t :: ts => if x.name = [] then letVals r ts else t :: letVals r ts
  | _, _ => []
theorem letVals_snoc (xs : List Itm) (x : Itm) (t : Int) : ∀ (vals : List Int), vals.length = xs.length → letVals (xs ++ [x]) (vals ++ [t]) = if x.name = [] then letVals xs vals else letVals xs vals ++ [t] := by
  induction xs with
  | nil => intro vals h; obtain rfl : vals = [] := by simpa using h
           simp [letVals]
  | cons y r ih =>
    intro vals h
    cases vals with
    | nil => simp at h
    | cons u vals =>
      have := ih vals (by simpa using h)
      simp only [List.cons_append, letVals, this]
      split <;> split <;> simp
theorem letVals_len (xs : List Itm) : ∀ (vals : List Int), vals.length = xs.length → (letVals xs vals).length = (giv xs).length := by
  induction xs with
  | nil => intro vals h; simp [letVals, giv]
  | cons y r ih =>
    intro vals h
    cases vals with
    | nil => simp at h
    | cons u vals =>
      have := ih vals (by simpa using h)
      rw [letVals, giv]; split <;> simp [this]
theorem letVals_at (s : List UInt8) (hs : s ≠ []) (xs : List Itm) : ∀ (vals : List Int), vals.length ≤ xs.length → 0 ≤ letIx xs s vals.length → (letVals (xs.take vals.length) vals).getD (idx (giv (xs.take vals.length)) s).toNat 0 = vals.getD (letIx xs s vals.length).toNat 0 := by
  induction xs with
  | nil => intro vals h h0; simp [letIx] at h0
  | cons x r ih =>
    intro vals h h0
    cases vals with
    | nil => simp [letIx] at h0
    | cons u vals =>
      rw [List.length_cons] at *
      rw [letIx] at h0 ⊢
      rw [List.take_succ_cons, letVals, giv]
      by_cases hx : x.name = []
      · have he : ¬ (x.name == s) = true := by rw [hx]; simpa using hs
        rw [if_neg he] at h0 ⊢
        rw [if_pos hx, if_pos hx]
        by_cases h1 : letIx r s vals.length < 0
        · rw [if_pos h1] at h0; omega
        · rw [if_neg h1]
          rw [ih vals (by simpa using h) (by omega), show (letIx r s vals.length + 1).toNat = (letIx r s vals.length).toNat + 1 from by omega, List.getD_cons_succ]
      · rw [if_neg hx, if_neg hx, idx]
        by_cases he : (x.name == s) = true
        · rw [if_pos he, if_pos he]; rfl
        · rw [if_neg he] at h0 ⊢
          rw [if_neg he]
          by_cases h1 : letIx r s vals.length < 0
          · rw [if_pos h1] at h0; omega
          · have h2 : ¬ idx (giv (r.take vals.length)) s < 0 := fun h => h1 ((giv_ix s hs r _).1 h)
            rw [if_neg h1, if_neg h2, show (letIx r s vals.length + 1).toNat = (letIx r s vals.length).toNat + 1 from by omega, show (idx (giv (r.take vals.length)) s + 1).toNat = (idx (giv (r.take vals.length)) s).toNat + 1 from by omega, List.getD_cons_succ, List.getD_cons_succ]
            exact ih vals (by simpa using h) (by omega)

/-- What a word of a kind tells. -/
theorem word_kinds : ∀ x ∈ spell.drop 20, (27 ≤ kn x → idx kFields x = ((kn x - 27 : Nat) : Int)) ∧ (kn x < 27 → idx kFields x < 0) ∧ (22 ≤ kn x → kn x ≤ 26 → idx kMembers x = ((kn x - 22 : Nat) : Int)) ∧ (kn x < 22 → idx kMembers x < 0) ∧ ((x == wTrue) = decide (kn x = 20)) ∧ 20 ≤ kn x ∧ kn x ≤ 35 := by decide
/-- What a kind tells. -/
def kindI (fl : List Int) (k : Nat) : Int := if 27 ≤ k then fl.getD (k - 27) 0 else if 22 ≤ k then ((k - 22 : Nat) : Int) else truthI (decide (k = 20))
theorem alone_kind {t : Tok} (h : TokW t) (ha : alone t = true) (hn : t.k ≠ 110) (ho : t.k ≠ 111) : t.text ∈ spell.drop 20 ∧ kindOf t = kn t.text ∧ 20 ≤ kindOf t ∧ kindOf t ≤ 35 := by
  rw [alone_iff h] at ha
  have hk : 20 ≤ kindOf t ∧ kindOf t ≤ 35 := by
    unfold standsK at ha
    simp only [Bool.or_eq_true, Bool.and_eq_true, decide_eq_true_eq] at ha
    rcases ha with (h1 | h1) | h1
    · exfalso
      rcases h.cases with h2 | h2 | h2 | ⟨h2, hm⟩
      · exact hn h2
      · exact ho h2
      · unfold kindOf at h1; rw [if_neg hn, if_neg ho, if_pos h2] at h1; simp at h1
      · rw [kind_word h2] at h1; have := spell_big _ hm; unfold kn at h1; omega
    · exact absurd (kind_two.1 h1) ho
    · exact h1
  rcases h.cases with h2 | h2 | h2 | ⟨h2, hm⟩
  · exact absurd h2 hn
  · exact absurd h2 ho
  · exfalso; unfold kindOf at hk; rw [if_neg hn, if_neg ho, if_pos h2] at hk; omega
  · have hw := kind_word h2
    refine ⟨?_, hw, hk⟩
    have key : ∀ x ∈ spell.drop 3, 20 ≤ kn x → x ∈ spell.drop 20 := by decide
    exact key _ hm (by omega)
theorem word_kind {xs : List Itm} {vals fl : List Int} {t : Tok} (h : TokW t) (ha : alone t = true) (hn : t.k ≠ 110) (ho : t.k ≠ 111) : wordI xs vals fl t = kindI fl (kindOf t) := by
  obtain ⟨hm, hk, _⟩ := alone_kind h ha hn ho
  obtain ⟨a1, a2, a3, a4, a5, a6, a7⟩ := word_kinds _ hm
  unfold wordI kindI
  rw [if_neg hn, if_neg ho, hk]
  by_cases h1 : 27 ≤ kn t.text
  · have e := a1 h1
    rw [if_pos (by omega), if_pos h1, e, Int.toNat_natCast]
  · have e := a2 (by omega)
    rw [if_neg (by omega), if_neg h1]
    by_cases h2 : 22 ≤ kn t.text
    · have e := a3 h2 (by omega)
      rw [if_pos (by omega), if_pos h2, e]
    · have e := a4 (by omega)
      rw [if_neg (by omega), if_neg h2, a5]
end Go.Proofs.YtfkdailfcmnjlaaGreatDoor

namespace Go.Proofs.YtfkdailfcmnjlaaGreatDoor
open Go Go.RowKit
set_option maxRecDepth 100000
attribute [local go_sem ↓] Go.wp_at_zero Go.wp_at_succ
variable {bs : Nat}

/-- The teller's cells: the fields, and what the lets told. -/
structure TelAt (w : World) (tb : Nat) (fl : List Int) (v : Value) : Prop where
  fields : ∀ i, i < 9 → w.cell? ⟨tb, i, none⟩ = some (.int .i64 (fl.getD i 0))
  lets : w.cell? ⟨tb, 9, none⟩ = some v
theorem TelAt.lt {w : World} {tb : Nat} {fl : List Int} {v : Value} (h : TelAt w tb fl v) : tb < w.heap.size := World.block_lt_of_cell? w _ h.lets
theorem TelAt.below {w w' : World} {tb : Nat} {fl : List Int} {v : Value} (h : TelAt w tb fl v) (hb : Below w.heap.size w w') : TelAt w' tb fl v :=
  ⟨fun i hi => by rw [hb.cell (p := ⟨tb, i, none⟩) h.lt]; exact h.fields i hi, by rw [hb.cell (p := ⟨tb, 9, none⟩) h.lt]; exact h.lets⟩
/-- A list of numbers at a slice. -/
def IntAt (w : World) (a : Option Addr) (l : List Int) : Prop := ∀ j, j < l.length → ∃ g, a = some ⟨g, 0, none⟩ ∧ w.cell? ⟨g, j, none⟩ = some (.int .i64 (l.getD j 0))
theorem IntAt.below {w w' : World} {a : Option Addr} {l : List Int} (h : IntAt w a l) (hb : Below w.heap.size w w') : IntAt w' a l := fun j hj => by
  obtain ⟨g, e, c⟩ := h j hj
  exact ⟨g, e, by rw [hb.cell (p := ⟨g, j, none⟩) (World.block_lt_of_cell? w _ c)]; exact c⟩

set_option maxHeartbeats 4000000 in
theorem pfield_any (k : Nat) (w : World) (hk : k ≤ 100) : Calls Tryz.prog 171 #[.int .i64 k] w fun e w' => e = .returned (.tuple #[.int .i64 (if 27 ≤ k ∧ k ≤ 35 then k - 27 else 0 : Nat), .bool (decide (27 ≤ k ∧ k ≤ 35))]) ∧ w' = w := by
  have WI : ∀ W, Calls Tryz.prog 226 #[.int .i64 k, .int .i64 27, .int .i64 35] W fun e w' => e = .returned (.tuple #[.int .i64 (if 27 ≤ k ∧ k ≤ 35 then k - 27 else 0 : Nat), .bool (decide (27 ≤ k ∧ k ≤ 35))]) ∧ w' = W := fun W => by
    by_cases h : 27 ≤ k ∧ k ≤ 35
    · have h1 := h.1
      have h2 := h.2
      have HE : Hid ((if 27 ≤ k ∧ k ≤ 35 then k - 27 else 0 : Nat) = k - 27 ∧ decide (27 ≤ k ∧ k ≤ 35) = true) := ⟨by rw [if_pos h], decide_eq_true h⟩
      generalize (if 27 ≤ k ∧ k ≤ 35 then k - 27 else 0 : Nat) = r at *
      generalize decide (27 ≤ k ∧ k ≤ 35) = q at *
      clear h
      go_enter Tryz.func226, Tryz.ntmps226
      go_wp2
      refine bodyPost_ret (v := .tuple #[.int .i64 ((k : Int) - 27), .bool true]) (by simp [results, Tryz.results226, go_sem]) rfl ⟨?_, rfl⟩
      rw [HE.out.1, HE.out.2, show ((k - 27 : Nat) : Int) = (k : Int) - 27 by omega]
    · have HE : Hid ((if 27 ≤ k ∧ k ≤ 35 then k - 27 else 0 : Nat) = 0 ∧ decide (27 ≤ k ∧ k ≤ 35) = false) := ⟨by rw [if_neg h], decide_eq_false h⟩
      generalize (if 27 ≤ k ∧ k ≤ 35 then k - 27 else 0 : Nat) = r at *
      generalize decide (27 ≤ k ∧ k ≤ 35) = q at *
      by_cases h1 : k < 27
      · clear h
        go_enter Tryz.func226, Tryz.ntmps226
        go_wp2
        refine bodyPost_ret (v := .tuple #[.int .i64 0, .bool false]) (by simp [results, Tryz.results226, go_sem]) rfl ⟨?_, rfl⟩
        rw [HE.out.1, HE.out.2]; rfl
      · have h2 : 35 < k := by omega
        clear h
        go_enter Tryz.func226, Tryz.ntmps226
        go_wp2
        refine bodyPost_ret (v := .tuple #[.int .i64 0, .bool false]) (by simp [results, Tryz.results226, go_sem]) rfl ⟨?_, rfl⟩
        rw [HE.out.1, HE.out.2]; rfl
  generalize (if 27 ≤ k ∧ k ≤ 35 then k - 27 else 0 : Nat) = r at *
  generalize decide (27 ≤ k ∧ k ≤ 35) = q at *
  go_enter Tryz.func171, Tryz.ntmps171
  go_wp2_with fail
  refine (WI _).mono ?_
  rintro e w1 ⟨rfl, rfl⟩
  clear WI
  go_wp2_with fail
  refine bodyPost_ret (v := .tuple #[.int .i64 r, .bool q]) (by simp [results, Tryz.results171, go_sem]) rfl ⟨rfl, rfl⟩

set_option maxHeartbeats 4000000 in
theorem pmemb_any (k : Nat) (w : World) (hk : k ≤ 100) : Calls Tryz.prog 172 #[.int .i64 k] w fun e w' => e = .returned (.tuple #[.int .i64 (if 22 ≤ k ∧ k ≤ 26 then k - 22 else 0 : Nat), .bool (decide (22 ≤ k ∧ k ≤ 26))]) ∧ w' = w := by
  have WI : ∀ W, Calls Tryz.prog 226 #[.int .i64 k, .int .i64 22, .int .i64 26] W fun e w' => e = .returned (.tuple #[.int .i64 (if 22 ≤ k ∧ k ≤ 26 then k - 22 else 0 : Nat), .bool (decide (22 ≤ k ∧ k ≤ 26))]) ∧ w' = W := fun W => by
    by_cases h : 22 ≤ k ∧ k ≤ 26
    · have h1 := h.1
      have h2 := h.2
      have HE : Hid ((if 22 ≤ k ∧ k ≤ 26 then k - 22 else 0 : Nat) = k - 22 ∧ decide (22 ≤ k ∧ k ≤ 26) = true) := ⟨by rw [if_pos h], decide_eq_true h⟩
      generalize (if 22 ≤ k ∧ k ≤ 26 then k - 22 else 0 : Nat) = r at *
      generalize decide (22 ≤ k ∧ k ≤ 26) = q at *
      clear h
      go_enter Tryz.func226, Tryz.ntmps226
      go_wp2
      refine bodyPost_ret (v := .tuple #[.int .i64 ((k : Int) - 22), .bool true]) (by simp [results, Tryz.results226, go_sem]) rfl ⟨?_, rfl⟩
      rw [HE.out.1, HE.out.2, show ((k - 22 : Nat) : Int) = (k : Int) - 22 by omega]
    · have HE : Hid ((if 22 ≤ k ∧ k ≤ 26 then k - 22 else 0 : Nat) = 0 ∧ decide (22 ≤ k ∧ k ≤ 26) = false) := ⟨by rw [if_neg h], decide_eq_false h⟩
      generalize (if 22 ≤ k ∧ k ≤ 26 then k - 22 else 0 : Nat) = r at *
      generalize decide (22 ≤ k ∧ k ≤ 26) = q at *
      by_cases h1 : k < 22
      · clear h
        go_enter Tryz.func226, Tryz.ntmps226
        go_wp2
        refine bodyPost_ret (v := .tuple #[.int .i64 0, .bool false]) (by simp [results, Tryz.results226, go_sem]) rfl ⟨?_, rfl⟩
        rw [HE.out.1, HE.out.2]; rfl
      · have h2 : 26 < k := by omega
        clear h
        go_enter Tryz.func226, Tryz.ntmps226
        go_wp2
        refine bodyPost_ret (v := .tuple #[.int .i64 0, .bool false]) (by simp [results, Tryz.results226, go_sem]) rfl ⟨?_, rfl⟩
        rw [HE.out.1, HE.out.2]; rfl
  generalize (if 22 ≤ k ∧ k ≤ 26 then k - 22 else 0 : Nat) = r at *
  generalize decide (22 ≤ k ∧ k ≤ 26) = q at *
  go_enter Tryz.func172, Tryz.ntmps172
  go_wp2_with fail
  refine (WI _).mono ?_
  rintro e w1 ⟨rfl, rfl⟩
  clear WI
  go_wp2_with fail
  refine bodyPost_ret (v := .tuple #[.int .i64 r, .bool q]) (by simp [results, Tryz.results172, go_sem]) rfl ⟨rfl, rfl⟩
end Go.Proofs.YtfkdailfcmnjlaaGreatDoor

namespace Go.Proofs.YtfkdailfcmnjlaaGreatDoor
open Go Go.RowKit
set_option maxRecDepth 100000
attribute [local go_sem ↓] Go.wp_at_zero Go.wp_at_succ

/-- A part's cells. -/
structure CellsC (w : World) (b : Nat) (k : Nat) (pl : Int) (n : Int) (nm : List UInt8) (u : Value) (l : Int) : Prop where
  c0 : w.cell? ⟨b, 0, none⟩ = some (.int .i64 k)
  c1 : w.cell? ⟨b, 1, none⟩ = some (.int .i64 pl)
  c2 : w.cell? ⟨b, 2, none⟩ = some (.int .i64 n)
  c3 : w.cell? ⟨b, 3, none⟩ = some (S nm)
  c4 : w.cell? ⟨b, 4, none⟩ = some u
  c5 : w.cell? ⟨b, 5, none⟩ = some (.int .i64 l)
theorem CellsC.below {w w' : World} {b k : Nat} {pl n l : Int} {nm : List UInt8} {u : Value} (h : CellsC w b k pl n nm u l) (hb : Below w.heap.size w w') : CellsC w' b k pl n nm u l := by
  have hl : b < w.heap.size := World.block_lt_of_cell? w _ h.c0
  have e : ∀ j, w'.cell? ⟨b, j, none⟩ = w.cell? ⟨b, j, none⟩ := fun j => hb.cell (p := ⟨b, j, none⟩) hl
  exact ⟨(e 0).trans h.c0, (e 1).trans h.c1, (e 2).trans h.c2, (e 3).trans h.c3, (e 4).trans h.c4, (e 5).trans h.c5⟩
/-- The list of the parts under a part. -/
def UnderG (w : World) (u : Value) (n : Nat) (bl : Nat → Nat) : Prop := ∃ a cap, u = .slice a n cap ∧ ∀ j, j < n → ∃ g, a = some ⟨g, 0, none⟩ ∧ w.cell? ⟨g, j, none⟩ = some (.pointer (some ⟨bl j, 0, none⟩))
theorem UnderG.below {w w' : World} {u : Value} {n : Nat} {bl : Nat → Nat} (h : UnderG w u n bl) (hb : Below w.heap.size w w') : UnderG w' u n bl := by
  obtain ⟨a, cap, e, h⟩ := h
  refine ⟨a, cap, e, fun j hj => ?_⟩
  obtain ⟨g, e, c⟩ := h j hj
  exact ⟨g, e, by rw [hb.cell (p := ⟨g, j, none⟩) (World.block_lt_of_cell? w _ c)]; exact c⟩
/-- A tree lies at a block. -/
def TrAt : Nat → World → Nat → Tr → Prop
  | 0, _, _, _ => False
  | d + 1, w, b, t => ∃ (pl : Int) (nm : List UInt8) (u : Value) (bl : Nat → Nat), CellsC w b t.k pl t.n nm u t.l ∧ UnderG w u t.kids.length bl ∧ ∀ j, j < t.kids.length → TrAt d w (bl j) (t.kid j)
theorem TrAt.below {d : Nat} : ∀ {w w' : World} {b : Nat} {t : Tr}, TrAt d w b t → Below w.heap.size w w' → TrAt d w' b t := by
  induction d with
  | zero => intro w w' b t h; exact h.elim
  | succ d ih =>
    intro w w' b t h hb
    obtain ⟨pl, nm, u, bl, h1, h2, h3⟩ := h
    exact ⟨pl, nm, u, bl, h1.below hb, h2.below hb, fun j hj => ih (h3 j hj) hb⟩
theorem TrAt.up {d : Nat} : ∀ {w : World} {b : Nat} {t : Tr}, TrAt d w b t → ∀ {e : Nat}, d ≤ e → TrAt e w b t := by
  induction d with
  | zero => intro w b t h; exact h.elim
  | succ d ih =>
    intro w b t h e he
    obtain ⟨e, rfl⟩ : ∃ q, e = q + 1 := ⟨e - 1, by omega⟩
    obtain ⟨pl, nm, u, bl, h1, h2, h3⟩ := h
    exact ⟨pl, nm, u, bl, h1, h2, fun j hj => ih (h3 j hj) (by omega)⟩

set_option maxHeartbeats 4000000 in
theorem ptellWord_any {w : World} {tb b k cap : Nat} {pl n l : Int} {nm : List UInt8} {u : Value} {a : Option Addr} {lv fl : List Int} (hk : leafK k) (hc : CellsC w b k pl n nm u l) (hT : TelAt w tb fl (.slice a lv.length cap)) (hL : IntAt w a lv) (hlv : lv.length ≤ 2000) (h2 : k = 2 → 0 ≤ l ∧ l.toNat < lv.length) :
    Calls Tryz.prog 127 #[.pointer (some ⟨tb, 0, none⟩), .pointer (some ⟨b, 0, none⟩)] w fun e w' => e = .returned (.int .i64 (if k = 1 then n else if k = 2 then lv.getD l.toNat 0 else kindV fl k)) ∧ Below w.heap.size w w' := by
  have hB := Below.refl w.heap.size w
  obtain ⟨c0, c1, c2, c3, c4, c5⟩ := hc
  obtain ⟨tf, tl⟩ := hT
  by_cases k1 : k = 1
  · subst k1
    rw [if_pos rfl]
    clear tf h2 hL
    go_enter Tryz.func127, Tryz.ntmps127
    go_wp2_with fail
    go_ret
    exact ⟨rfl, hB⟩
  rw [if_neg k1]
  by_cases k2 : k = 2
  · subst k2
    rw [if_pos rfl]
    obtain ⟨h0, h3⟩ := h2 rfl
    obtain ⟨g, rfl, hg⟩ := hL l.toNat h3
    have e : l = (l.toNat : Int) := by omega
    have h4 : l < (lv.length : Int) := by omega
    generalize lv.getD l.toNat 0 = r at *
    generalize l.toNat = q at *
    subst e
    clear tf h2 hL
    go_enter Tryz.func127, Tryz.ntmps127
    go_wp2_with fail
    go_region_held (fun w' => w'.cell? ⟨tb, 9, none⟩ = some (.slice (some ⟨g, 0, none⟩) lv.length cap) ∧ w'.cell? ⟨b, 5, none⟩ = some (.int .i64 q) ∧ w'.cell? ⟨g, q, none⟩ = some (.int .i64 r)) (go_keep) (fail)
    go_wp2_with fail
    go_ret
    exact ⟨rfl, hB.drew⟩
  rw [if_neg k2]
  have hk9 : 20 ≤ k ∧ k ≤ 35 := by unfold leafK at hk; omega
  have WF := pfield_any k w (by omega)
  have WM := pmemb_any k w (by omega)
  have hka : ((k : Int) == (1 : Int)) = false := by
    have : ¬ ((k : Int) = 1) := by omega
    simpa using this
  have hkb : ((k : Int) == (2 : Int)) = false := by
    have : ¬ ((k : Int) = 2) := by omega
    simpa using this
  by_cases h27 : 27 ≤ k
  · have hf := tf (k - 27) (by omega)
    have HV : Hid (kindV fl k = fl.getD (k - 27) 0) := by show _ = _; unfold kindV; rw [if_pos h27]
    rw [if_pos (by omega), decide_eq_true (by omega)] at WF
    have h28 : k - 27 < 9 := by omega
    generalize fl.getD (k - 27) 0 = r at *
    generalize kindV fl k = q at *
    generalize k - 27 = m at *
    clear WM tf hL h2 hk
    go_enter Tryz.func127, Tryz.ntmps127
    go_wp2_with fail
    refine WF.mono ?_
    rintro e w1 ⟨rfl, rfl⟩
    clear WF
    go_wp2_with fail
    go_ret
    exact ⟨by rw [HV.out]; rfl, hB⟩
  · rw [if_neg (by omega), decide_eq_false (by omega)] at WF
    by_cases h22 : 22 ≤ k
    · have HV : Hid (kindV fl k = ((k - 22 : Nat) : Int)) := by show _ = _; unfold kindV; rw [if_neg h27, if_pos h22]
      rw [if_pos (by omega), decide_eq_true (by omega)] at WM
      generalize kindV fl k = q at *
      generalize k - 22 = m at *
      clear tf hL h2 hk
      go_enter Tryz.func127, Tryz.ntmps127
      go_wp2_with fail
      refine WF.mono ?_
      rintro e w1 ⟨rfl, rfl⟩
      clear WF
      go_wp2_with fail
      refine WM.mono ?_
      rintro e w2 ⟨rfl, rfl⟩
      clear WM
      go_wp2_with fail
      go_ret
      exact ⟨by rw [HV.out]; rfl, hB⟩
    · rw [if_neg (by omega), decide_eq_false (by omega)] at WM
      have HV : Hid (kindV fl k = truthI (decide (k = 20))) := by show _ = _; unfold kindV; rw [if_neg h27, if_neg h22]
      generalize kindV fl k = q at *
      by_cases h20 : k = 20
      · subst h20
        have WT := fun W => ptruth_any true W
        have HV2 : Hid (q = truthI true) := by show _ = _; rw [HV.out]; rfl
        clear HV
        generalize truthI true = r at *
        clear tf hL h2 hk
        go_enter Tryz.func127, Tryz.ntmps127
        go_wp2_with fail
        refine WF.mono ?_
        rintro e w1 ⟨rfl, rfl⟩
        clear WF
        go_wp2_with fail
        refine WM.mono ?_
        rintro e w2 ⟨rfl, rfl⟩
        clear WM
        go_wp2_with fail
        refine (WT _).mono ?_
        rintro e w3 ⟨rfl, rfl⟩
        clear WT
        go_wp2_with fail
        go_ret
        exact ⟨by rw [HV2.out]; rfl, hB⟩
      · have h21 : ((k : Int) == (20 : Int)) = false := by
          have : ¬ ((k : Int) = 20) := by omega
          simpa using this
        have WT := fun W => ptruth_any false W
        have HV2 : Hid (q = truthI false) := by show _ = _; rw [HV.out, decide_eq_false h20]
        clear HV
        generalize truthI false = r at *
        clear tf hL h2 hk
        go_enter Tryz.func127, Tryz.ntmps127
        go_wp2_with fail
        refine WF.mono ?_
        rintro e w1 ⟨rfl, rfl⟩
        clear WF
        go_wp2_with fail
        refine WM.mono ?_
        rintro e w2 ⟨rfl, rfl⟩
        clear WM
        go_wp2_with fail
        refine (WT _).mono ?_
        rintro e w3 ⟨rfl, rfl⟩
        clear WT
        go_wp2_with fail
        go_ret
        exact ⟨by rw [HV2.out]; rfl, hB⟩
end Go.Proofs.YtfkdailfcmnjlaaGreatDoor

namespace Go.Proofs.YtfkdailfcmnjlaaGreatDoor
open Go Go.RowKit
set_option maxRecDepth 100000
attribute [local go_sem ↓] Go.wp_at_zero Go.wp_at_succ

theorem tellOver_kind {k : Nat} (hk : twoK k) {a b : Int} (ha : In64 a) (hb : In64 b) (w : World) : Calls Tryz.prog 126 #[.int .i64 k, .int .i64 a, .int .i64 b] w fun e w' => e = .returned (.int .i64 (two2 k a b)) ∧ w' = w := by
  rcases hk with rfl | rfl | rfl | rfl | rfl | rfl | rfl
  · have h := tellOver_any (x := [43]) (by decide) ha hb w
    rw [show kn [43] = 6 from by decide] at h; exact h
  · have h := tellOver_any (x := [45]) (by decide) ha hb w
    rw [show kn [45] = 7 from by decide] at h; exact h
  · have h := tellOver_any (x := [61]) (by decide) ha hb w
    rw [show kn [61] = 8 from by decide] at h; exact h
  · have h := tellOver_any (x := [60, 61]) (by decide) ha hb w
    rw [show kn [60, 61] = 9 from by decide] at h; exact h
  · have h := tellOver_any (x := [60]) (by decide) ha hb w
    rw [show kn [60] = 10 from by decide] at h; exact h
  · have h := tellOver_any (x := [111, 114]) (by decide) ha hb w
    rw [show kn [111, 114] = 17 from by decide] at h; exact h
  · have h := tellOver_any (x := [97, 110, 100]) (by decide) ha hb w
    rw [show kn [97, 110, 100] = 18 from by decide] at h; exact h

set_option maxHeartbeats 4000000 in
theorem ptell_two {w : World} {tb b k g cap b0 b1 : Nat} {v0 v1 : Int} (hk : twoK k) (c0 : w.cell? ⟨b, 0, none⟩ = some (.int .i64 k)) (c4 : w.cell? ⟨b, 4, none⟩ = some (.slice (some ⟨g, 0, none⟩) 2 cap)) (d0 : w.cell? ⟨g, 0, none⟩ = some (.pointer (some ⟨b0, 0, none⟩))) (d1 : w.cell? ⟨g, 1, none⟩ = some (.pointer (some ⟨b1, 0, none⟩))) (h0 : In64 v0) (h1 : In64 v1)
    (W1 : ∀ w1, Below w.heap.size w w1 → Calls Tryz.prog 78 #[.pointer (some ⟨tb, 0, none⟩), .pointer (some ⟨b0, 0, none⟩)] w1 fun e w' => e = .returned (.int .i64 v0) ∧ Below w1.heap.size w1 w')
    (W2 : ∀ w1, Below w.heap.size w w1 → Calls Tryz.prog 78 #[.pointer (some ⟨tb, 0, none⟩), .pointer (some ⟨b1, 0, none⟩)] w1 fun e w' => e = .returned (.int .i64 v1) ∧ Below w1.heap.size w1 w') :
    Calls Tryz.prog 78 #[.pointer (some ⟨tb, 0, none⟩), .pointer (some ⟨b, 0, none⟩)] w fun e w' => e = .returned (.int .i64 (two2 k v0 v1)) ∧ Below w.heap.size w w' := by
  have W3 := fun W => tellOver_kind hk h0 h1 W
  have n3 : ((k : Int) == (19 : Int)) = false := by
    have : ¬ ((k : Int) = 19) := by unfold twoK at hk; omega
    simpa using this
  have n4 : ((k : Int) == (14 : Int)) = false := by
    have : ¬ ((k : Int) = 14) := by unfold twoK at hk; omega
    simpa using this
  clear hk
  have KF : Hid (∀ w', Below w.heap.size w w' → (w'.cell? ⟨b, 4, none⟩ = some (.slice (some ⟨g, 0, none⟩) 2 cap) ∧ w'.cell? ⟨g, 0, none⟩ = some (.pointer (some ⟨b0, 0, none⟩)) ∧ w'.cell? ⟨g, 1, none⟩ = some (.pointer (some ⟨b1, 0, none⟩)) ∧ w'.cell? ⟨b, 0, none⟩ = some (.int .i64 k))) := fun w' h => by
    rw [h.cell (p := ⟨b, 4, none⟩) (World.block_lt_of_cell? w _ c4), h.cell (p := ⟨g, 0, none⟩) (World.block_lt_of_cell? w _ d0), h.cell (p := ⟨g, 1, none⟩) (World.block_lt_of_cell? w _ d1), h.cell (p := ⟨b, 0, none⟩) (World.block_lt_of_cell? w _ c0)]
    exact ⟨c4, d0, d1, c0⟩
  generalize two2 k v0 v1 = q at *
  go_enter Tryz.func78, Tryz.ntmps78
  go_wp2_with fail
  go_region_held3 (fun w' => w'.cell? ⟨b, 4, none⟩ = some (.slice (some ⟨g, 0, none⟩) 2 cap) ∧ w'.cell? ⟨g, 0, none⟩ = some (.pointer (some ⟨b0, 0, none⟩)) ∧ w'.cell? ⟨g, 1, none⟩ = some (.pointer (some ⟨b1, 0, none⟩)) ∧ w'.cell? ⟨b, 0, none⟩ = some (.int .i64 k)) (first | exact KF.out _ hB7 | exact KF.out _ hB5 | go_keep) ((first | (go_at_call 126; refine (W3 _).mono ?_; rintro e w6 ⟨rfl, hw6⟩; subst hw6) | (go_at_call 78; refine (W2 _ hB5).mono ?_; rintro e w7 ⟨rfl, hb7⟩; have hB7 := hB5.trans (hb7.mono hB5.size)) | (go_at_call 78; refine (W1 _ (Below.refl _ _).drew).mono ?_; rintro e w5 ⟨rfl, hb5⟩; have hB5 : Below w.heap.size w w5 := (Below.refl _ _).drew.trans hb5)))
  all_goals rename_i hHeld
  all_goals clear hHeld
  all_goals go_wp2_with fail
  all_goals go_ret
  all_goals exact ⟨rfl, hB7⟩

set_option maxHeartbeats 4000000 in
theorem ptell_not {w : World} {tb b g cap b0 : Nat} {v0 : Int} (c0 : w.cell? ⟨b, 0, none⟩ = some (.int .i64 19)) (c4 : w.cell? ⟨b, 4, none⟩ = some (.slice (some ⟨g, 0, none⟩) 1 cap)) (d0 : w.cell? ⟨g, 0, none⟩ = some (.pointer (some ⟨b0, 0, none⟩))) (h0 : v0 = 0 ∨ v0 = 1)
    (W1 : ∀ w1, Below w.heap.size w w1 → Calls Tryz.prog 78 #[.pointer (some ⟨tb, 0, none⟩), .pointer (some ⟨b0, 0, none⟩)] w1 fun e w' => e = .returned (.int .i64 v0) ∧ Below w1.heap.size w1 w') :
    Calls Tryz.prog 78 #[.pointer (some ⟨tb, 0, none⟩), .pointer (some ⟨b, 0, none⟩)] w fun e w' => e = .returned (.int .i64 (1 - v0)) ∧ Below w.heap.size w w' := by
  have W3 := fun W => pnot_any h0 W
  generalize 1 - v0 = q at *
  clear h0
  go_enter Tryz.func78, Tryz.ntmps78
  go_wp2_with fail
  refine (W1 _ (Below.refl _ _)).mono ?_
  rintro e w1 ⟨rfl, hb1⟩
  clear W1
  go_wp2_with fail
  refine (W3 _).mono ?_
  rintro e w2 ⟨rfl, rfl⟩
  clear W3
  go_wp2_with fail
  go_ret
  exact ⟨rfl, hb1⟩

set_option maxHeartbeats 4000000 in
theorem ptell_if {w : World} {tb b g cap b0 b1 b2 : Nat} {v0 v1 v2 : Int} (c0 : w.cell? ⟨b, 0, none⟩ = some (.int .i64 14)) (c4 : w.cell? ⟨b, 4, none⟩ = some (.slice (some ⟨g, 0, none⟩) 3 cap)) (d0 : w.cell? ⟨g, 0, none⟩ = some (.pointer (some ⟨b0, 0, none⟩))) (d1 : w.cell? ⟨g, 1, none⟩ = some (.pointer (some ⟨b1, 0, none⟩))) (d2 : w.cell? ⟨g, 2, none⟩ = some (.pointer (some ⟨b2, 0, none⟩)))
    (W1 : ∀ w1, Below w.heap.size w w1 → Calls Tryz.prog 78 #[.pointer (some ⟨tb, 0, none⟩), .pointer (some ⟨b0, 0, none⟩)] w1 fun e w' => e = .returned (.int .i64 v0) ∧ Below w1.heap.size w1 w')
    (W2 : ∀ w1, Below w.heap.size w w1 → Calls Tryz.prog 78 #[.pointer (some ⟨tb, 0, none⟩), .pointer (some ⟨b1, 0, none⟩)] w1 fun e w' => e = .returned (.int .i64 v1) ∧ Below w1.heap.size w1 w')
    (W3 : ∀ w1, Below w.heap.size w w1 → Calls Tryz.prog 78 #[.pointer (some ⟨tb, 0, none⟩), .pointer (some ⟨b2, 0, none⟩)] w1 fun e w' => e = .returned (.int .i64 v2) ∧ Below w1.heap.size w1 w') :
    Calls Tryz.prog 78 #[.pointer (some ⟨tb, 0, none⟩), .pointer (some ⟨b, 0, none⟩)] w fun e w' => e = .returned (.int .i64 (if v0 = 1 then v1 else v2)) ∧ Below w.heap.size w w' := by
  have KF : Hid (∀ w', Below w.heap.size w w' → (w'.cell? ⟨b, 4, none⟩ = some (.slice (some ⟨g, 0, none⟩) 3 cap) ∧ w'.cell? ⟨g, 0, none⟩ = some (.pointer (some ⟨b0, 0, none⟩)) ∧ w'.cell? ⟨g, 1, none⟩ = some (.pointer (some ⟨b1, 0, none⟩)) ∧ w'.cell? ⟨g, 2, none⟩ = some (.pointer (some ⟨b2, 0, none⟩)))) := fun w' h => by
    rw [h.cell (p := ⟨b, 4, none⟩) (World.block_lt_of_cell? w _ c4), h.cell (p := ⟨g, 0, none⟩) (World.block_lt_of_cell? w _ d0), h.cell (p := ⟨g, 1, none⟩) (World.block_lt_of_cell? w _ d1), h.cell (p := ⟨g, 2, none⟩) (World.block_lt_of_cell? w _ d2)]
    exact ⟨c4, d0, d1, d2⟩
  by_cases hv : v0 = 1
  · subst hv
    rw [if_pos rfl]
    go_enter Tryz.func78, Tryz.ntmps78
    go_wp2_with fail
    refine (W1 _ (Below.refl _ _)).mono ?_
    rintro e w1 ⟨rfl, hb1⟩
    clear W1 W3 c4 d0 d1 d2
    obtain ⟨c4, d0, d1, d2⟩ := KF.out w1 hb1
    go_wp2_with fail
    refine (W2 _ hb1).mono ?_
    rintro e w2 ⟨rfl, hb2⟩
    clear W2
    have HB : Hid _ := hb1.trans (hb2.mono hb1.size)
    clear c4 d0 d1 d2 hb1 hb2
    go_wp2_with fail
    go_ret
    exact ⟨rfl, HB.out⟩
  · rw [if_neg hv]
    have hv2 : (v0 == (1 : Int)) = false := by simpa using hv
    clear hv
    go_enter Tryz.func78, Tryz.ntmps78
    go_wp2_with fail
    refine (W1 _ (Below.refl _ _)).mono ?_
    rintro e w1 ⟨rfl, hb1⟩
    clear W1 W2 c4 d0 d1 d2
    obtain ⟨c4, d0, d1, d2⟩ := KF.out w1 hb1
    go_wp2_with fail
    refine (W3 _ hb1).mono ?_
    rintro e w2 ⟨rfl, hb2⟩
    clear W3
    have HB : Hid _ := hb1.trans (hb2.mono hb1.size)
    clear c4 d0 d1 d2 hb1 hb2
    go_wp2_with fail
    go_ret
    exact ⟨rfl, HB.out⟩

set_option maxHeartbeats 4000000 in
theorem ptell_leaf {w : World} {tb b k cap : Nat} {pl n l : Int} {nm : List UInt8} {a : Option Addr} {lv fl : List Int} {au : Option Addr} {cu : Nat} (hk : leafK k) (hc : CellsC w b k pl n nm (.slice au 0 cu) l) (hT : TelAt w tb fl (.slice a lv.length cap)) (hL : IntAt w a lv) (hlv : lv.length ≤ 2000) (h2 : k = 2 → 0 ≤ l ∧ l.toNat < lv.length) :
    Calls Tryz.prog 78 #[.pointer (some ⟨tb, 0, none⟩), .pointer (some ⟨b, 0, none⟩)] w fun e w' => e = .returned (.int .i64 (if k = 1 then n else if k = 2 then lv.getD l.toNat 0 else kindV fl k)) ∧ Below w.heap.size w w' := by
  have W1 := ptellWord_any hk hc hT hL hlv h2
  have n3 : ((k : Int) == (19 : Int)) = false := by
    have : ¬ ((k : Int) = 19) := by unfold leafK at hk; omega
    simpa using this
  have n4 : ((k : Int) == (14 : Int)) = false := by
    have : ¬ ((k : Int) = 14) := by unfold leafK at hk; omega
    simpa using this
  obtain ⟨c0, c1, c2, c3, c4, c5⟩ := hc
  clear h2 hL hT hk
  generalize (if k = 1 then n else if k = 2 then lv.getD l.toNat 0 else kindV fl k) = q at *
  go_enter Tryz.func78, Tryz.ntmps78
  go_wp2_with fail
  refine W1.mono ?_
  rintro e w1 ⟨rfl, hb1⟩
  clear W1
  have HB : Hid _ := hb1
  clear c0 c1 c2 c3 c4 c5 hb1
  go_wp2_with fail
  go_ret
  exact ⟨rfl, HB.out⟩

/-- What the program tells of a tree. -/
theorem ptell_any {lt : List Nat} {lv fl : List Int} (hV : LetsT lt lv) (hF : FieldsT fl) (hll : lt.length ≤ lv.length) (hlv : lv.length ≤ 2000) {d : Nat} : ∀ {t : Tr} {w : World} {tb b cap : Nat} {a : Option Addr}, TrAt d w b t → WfT d t → tyTr lt d t ≠ 0 → TelAt w tb fl (.slice a lv.length cap) → IntAt w a lv →
    Calls Tryz.prog 78 #[.pointer (some ⟨tb, 0, none⟩), .pointer (some ⟨b, 0, none⟩)] w fun e w' => e = .returned (.int .i64 (evT lv fl d t)) ∧ Below w.heap.size w w' := by
  induction d with
  | zero => intro t w tb b cap a h; exact h.elim
  | succ d ih =>
    intro t w tb b cap a h hw hty hT hL
    obtain ⟨pl, nm, u, bl, hc, hu, hk⟩ := h
    obtain ⟨au, cu, rfl, hu⟩ := hu
    have hkt := kids_ty hw hty
    have hrec : ∀ j, j < t.kids.length → (t.kid j ∈ t.kids) := fun j hj => by unfold Tr.kid; rw [List.getD_eq_getElem?_getD, List.getElem?_eq_getElem hj]; exact List.getElem_mem hj
    have W : ∀ j (hj : j < t.kids.length), ∀ w1, Below w.heap.size w w1 → Calls Tryz.prog 78 #[.pointer (some ⟨tb, 0, none⟩), .pointer (some ⟨bl j, 0, none⟩)] w1 fun e w' => e = .returned (.int .i64 (evT lv fl d (t.kid j))) ∧ Below w1.heap.size w1 w' := fun j hj w1 hb =>
      ih ((hk j hj).below hb) (hw.2 _ (hrec j hj)) (hkt _ (hrec j hj)) (hT.below hb) (hL.below hb)
    have hin : ∀ j (hj : j < t.kids.length), HasT (tyTr lt d (t.kid j)) (evT lv fl d (t.kid j)) := fun j hj => ev_has hV hF (hw.2 _ (hrec j hj)) (hkt _ (hrec j hj))
    rw [evT]
    rcases hw.1 with ⟨hkk, hs, hn, hl⟩ | ⟨hkk, x, hs⟩ | ⟨hkk, x, y, z, hs⟩ | ⟨hkk, x, y, hs⟩
    · rw [hs] at hc ⊢
      have h2 : t.k = 2 → 0 ≤ t.l ∧ t.l.toNat < lv.length := fun h2 => by
        refine ⟨hl h2, ?_⟩
        rw [tyTr, if_pos hs] at hty
        unfold wordTy at hty
        rw [if_neg (by omega), if_pos h2] at hty
        have : t.l.toNat < lt.length := by
          by_cases e : t.l.toNat < lt.length
          · exact e
          · exfalso; apply hty
            rw [List.getD_eq_getElem?_getD, List.getElem?_eq_none (by omega)]; rfl
        omega
      exact ptell_leaf hkk hc hT hL hlv h2
    · have hlen : t.kids.length = 1 := by rw [hs]; rfl
      rw [hlen] at hc hu
      obtain ⟨g, rfl, d0⟩ := hu 0 (by omega)
      have e0 : t.kid 0 = x := by unfold Tr.kid; rw [hs]; rfl
      have c0 := hc.c0
      rw [hkk] at c0
      have h01 : evT lv fl d (t.kid 0) = 0 ∨ evT lv fl d (t.kid 0) = 1 := by
        have h := hin 0 (by omega)
        refine h.2 ?_
        rw [tyTr, hs, if_neg (by simp)] at hty
        simp only [List.map_cons, List.map_nil, overTy] at hty
        rw [e0]
        by_cases e : tyTr lt d x = 2
        · exact e
        · rw [if_neg e] at hty; exact absurd rfl hty
      have h := ptell_not c0 hc.c4 d0 h01 (W 0 (by omega))
      rw [e0] at h
      rw [hs]; exact h
    · have hlen : t.kids.length = 3 := by rw [hs]; rfl
      rw [hlen] at hc hu
      obtain ⟨g, rfl, d0⟩ := hu 0 (by omega)
      obtain ⟨g1, e1, d1⟩ := hu 1 (by omega)
      obtain ⟨g2, e2, d2⟩ := hu 2 (by omega)
      simp at e1 e2
      rw [← e1] at d1
      rw [← e2] at d2
      have q0 : t.kid 0 = x := by unfold Tr.kid; rw [hs]; rfl
      have q1 : t.kid 1 = y := by unfold Tr.kid; rw [hs]; rfl
      have q2 : t.kid 2 = z := by unfold Tr.kid; rw [hs]; rfl
      have c0 := hc.c0
      rw [hkk] at c0
      have h := ptell_if c0 hc.c4 d0 d1 d2 (W 0 (by omega)) (W 1 (by omega)) (W 2 (by omega))
      rw [q0, q1, q2] at h
      rw [hs]; exact h
    · have hlen : t.kids.length = 2 := by rw [hs]; rfl
      rw [hlen] at hc hu
      obtain ⟨g, rfl, d0⟩ := hu 0 (by omega)
      obtain ⟨g1, e1, d1⟩ := hu 1 (by omega)
      simp at e1
      rw [← e1] at d1
      have q0 : t.kid 0 = x := by unfold Tr.kid; rw [hs]; rfl
      have q1 : t.kid 1 = y := by unfold Tr.kid; rw [hs]; rfl
      have h := ptell_two hkk hc.c0 hc.c4 d0 d1 (hin 0 (by omega)).1 (hin 1 (by omega)).1 (W 0 (by omega)) (W 1 (by omega))
      rw [q0, q1] at h
      rw [hs]; exact h
end Go.Proofs.YtfkdailfcmnjlaaGreatDoor

namespace Go.Proofs.YtfkdailfcmnjlaaGreatDoor
open Go Go.RowKit
set_option maxRecDepth 100000

/-- A part as a tree. -/
def toTr (ix : List UInt8 → Int) (L : List Pt) : Nat → Nat → Tr
  | 0, _ => noTr
  | f + 1, i => ⟨kindOf (L.getD i noPt).tok, nmOf (L.getD i noPt).tok, if kindOf (L.getD i noPt).tok = 2 then ix (ownOf (L.getD i noPt).tok) else 0, (L.getD i noPt).subs.map (toTr ix L f)⟩
theorem under_gen {w : World} {u : Value} {n : Nat} {bl : Nat → Nat} (h : UnderAt w u n bl) : UnderG w u n bl := by
  obtain ⟨a, e, h⟩ := h.slice
  refine ⟨a, n, e, fun j hj => ?_⟩
  obtain ⟨g, e, hg⟩ := h j hj
  exact ⟨g, e, under_cell hg j hj⟩
theorem kid_map (ix : List UInt8 → Int) (L : List Pt) (f : Nat) (l : List Nat) (j : Nat) (h : j < l.length) (k : Nat) (n a : Int) : Tr.kid ⟨k, n, a, l.map (toTr ix L f)⟩ j = toTr ix L f (l.getD j 0) := by
  unfold Tr.kid; simp [List.getD_eq_getElem?_getD, h]
theorem CondS.tr {bs : Nat} {ix : List UInt8 → Int} {L : List Pt} {w : World} (f : Nat) : ∀ {lo i b : Nat}, TreeF f L lo i → CondS bs L (N1 ix) w i b → TrAt f w b (toTr ix L f i) := by
  induction f with
  | zero => intro lo i b h; exact h.elim
  | succ f ih =>
    intro lo i b hT hC
    obtain ⟨u, n, bl, hi, hlo, hn, hb, hu, hs⟩ := hC.inv
    obtain ⟨⟨c0, c1, c2, c3, c4, c5⟩, _⟩ := cd_cells hb
    have hsub := forest_mem _ hT.2.2
    unfold N1 at hn
    rw [toTr]
    refine ⟨_, _, u, bl, ⟨c0, c1, c2, c3, c4, by rw [← hn]; exact c5⟩, by simpa using under_gen hu, fun j hj => ?_⟩
    have hj' : j < (L.getD i noPt).subs.length := by simpa using hj
    rw [kid_map _ _ _ _ _ hj']
    obtain ⟨lo', hT'⟩ := hsub _ (getD_in hj')
    exact ih hT' (hs j hj')

theorem over_same {k : Nat} {us : List Nat} (h0 : 0 ∉ us) (h : (k = 19 ∧ us.length = 1) ∨ (k = 14 ∧ us.length = 3) ∨ (twoK k ∧ us.length = 2)) : overTy k us = overK k us := by
  rcases h with ⟨rfl, hl⟩ | ⟨rfl, hl⟩ | ⟨hk, hl⟩
  · match us, hl with
    | [a], _ => simp [overTy, overK, ifAllK]
  · match us, hl with
    | [a, b, c], _ =>
      simp only [overTy, overK, ifAllK, List.getD_cons_zero, List.getD_cons_succ, List.drop_succ_cons, List.drop_zero, List.all_cons, List.all_nil]
      by_cases h1 : a = 2
      · by_cases h2 : b = c
        · simp [h1, h2]
        · simp [h1, h2, Ne.symm h2]
      · simp [h1]
  · match us, hl with
    | [a, b], _ =>
      simp at h0
      unfold twoK at hk
      rcases hk with rfl | rfl | rfl | rfl | rfl | rfl | rfl
      · simp [overTy, overK, ifAllK]
      · simp [overTy, overK, ifAllK]
      · simp only [overTy, overK, ifAllK, List.getD_cons_zero, List.all_cons, List.all_nil]
        by_cases h2 : a = b
        · subst h2; simp; omega
        · simp [h2, Ne.symm h2]
      · simp [overTy, overK, ifAllK]
      · simp [overTy, overK, ifAllK]
      · simp [overTy, overK, ifAllK]
      · simp [overTy, overK, ifAllK]
theorem word_same (lt : List Nat) {k : Nat} (n l : Int) (h : 20 ≤ k ∧ k ≤ 35) : wordTy lt ⟨k, n, l, []⟩ = wordK k := by
  unfold wordTy wordK fieldTy
  simp only []
  (repeat' split) <;> omega
theorem two_kinds : ∀ x ∈ ([[43], [45], [60], [60, 61], [61], [111, 114], [97, 110, 100]] : List (List UInt8)), kn x = 6 ∨ kn x = 7 ∨ kn x = 8 ∨ kn x = 9 ∨ kn x = 10 ∨ kn x = 17 ∨ kn x = 18 := by decide
theorem two_text {x : List UInt8} (h : x ∈ ([[43], [45], [60], [60, 61], [61], [111, 114], [97, 110, 100]] : List (List UInt8))) (a b : Int) : two2 (kn x) a b = twoI x a b := by
  simp only [List.mem_cons, List.not_mem_nil, or_false] at h
  rcases h with rfl | rfl | rfl | rfl | rfl | rfl | rfl
  · rw [show kn [43] = 6 from by decide]; rfl
  · rw [show kn [45] = 7 from by decide]; rfl
  · rw [show kn [60] = 10 from by decide]; rfl
  · rw [show kn [60, 61] = 9 from by decide]; rfl
  · rw [show kn [61] = 8 from by decide]; rfl
  · rw [show kn [111, 114] = 17 from by decide]; rfl
  · rw [show kn [97, 110, 100] = 18 from by decide]; rfl

/-- A part of a type, as a tree: well formed, of that type, telling the same. -/
structure TrOK (xs : List Itm) (its : List UInt8) (vals fl : List Int) (L : List Pt) (f i : Nat) : Prop where
  wf : WfT f (toTr (idx (giv xs)) L f i)
  ty : tyTr (letTys (xs.take its.length) its) f (toTr (idx (giv xs)) L f i) = tcode (tyOf xs its L f i)
  ev : evT (letVals (xs.take vals.length) vals) fl f (toTr (idx (giv xs)) L f i) = tellF xs vals fl L f i
theorem to_tr {L : List Pt} {xs : List Itm} {its : List UInt8} {vals fl : List Int} (hW : ∀ k, k < L.length → TokW (L.getD k noPt).tok) (hits : ∀ c ∈ its, isTy c) (hle : its.length ≤ xs.length) (hvl : vals.length = its.length) (hN : ∀ k, k < L.length → (L.getD k noPt).tok.k = 110 → decVal (L.getD k noPt).tok.text ≤ 9223372036854775807) (f : Nat) :
    ∀ {lo i : Nat}, TreeF f L lo i → Given xs its.length L lo (i + 1) → tyOf xs its L f i ≠ 0 → TrOK xs its vals fl L f i := by
  induction f with
  | zero => intro lo i h; exact h.elim
  | succ f ih =>
    intro lo i hT hG hty
    have hsub := forest_bounds _ hT.2.2
    have hall : ∀ j ∈ (L.getD i noPt).subs, tyOf xs its L f j ≠ 0 ∧ isTy (tyOf xs its L f j) ∧ TrOK xs its vals fl L f j := fun j hj => by
      obtain ⟨lo', h1, h2, h3⟩ := hsub j hj
      have hg' : Given xs its.length L lo' (j + 1) := fun q a b => hG q (by omega) (by omega)
      have hne : tyOf xs its L f j ≠ 0 := fun e => by
        rw [tyOf] at hty
        rw [if_pos (by rw [List.contains_iff_mem, ← e]; exact List.mem_map_of_mem hj)] at hty
        exact hty rfl
      refine ⟨hne, ?_, ih h3 hg' hne⟩
      rcases tyOf_ty hW hits f h3 hg' with h | h
      · exact absurd h hne
      · exact h
    have hmt : ((L.getD i noPt).subs.map (toTr (idx (giv xs)) L f)).map (tyTr (letTys (xs.take its.length) its) f) = (L.getD i noPt).subs.map fun j => tcode (tyOf xs its L f j) := by
      rw [List.map_map]; exact List.map_congr_left fun j hj => (hall j hj).2.2.ty
    have hmv : ((L.getD i noPt).subs.map (toTr (idx (giv xs)) L f)).map (evT (letVals (xs.take vals.length) vals) fl f) = (L.getD i noPt).subs.map (tellF xs vals fl L f) := by
      rw [List.map_map]; exact List.map_congr_left fun j hj => (hall j hj).2.2.ev
    have hc0 : ((L.getD i noPt).subs.map (tyOf xs its L f)).contains 0 = false := by
      rw [Bool.eq_false_iff]; intro e
      rw [List.contains_iff_mem, List.mem_map] at e
      obtain ⟨j, hj, e⟩ := e
      exact (hall j hj).1 e
    have htyE : tyOf xs its L (f + 1) i = UInt8.ofNat (tyCase xs its (L.getD i noPt).tok ((L.getD i noPt).subs.map (tyOf xs its L f))) := by
      rw [tyOf, if_neg (by rw [hc0]; simp)]
    have hwk : ∀ c ∈ (L.getD i noPt).subs.map (toTr (idx (giv xs)) L f), WfT f c := fun c hc => by
      obtain ⟨j, hj, rfl⟩ := List.mem_map.1 hc
      exact (hall j hj).2.2.wf
    have hz : 0 ∉ (L.getD i noPt).subs.map fun j => tcode (tyOf xs its L f j) := fun e => by
      obtain ⟨j, hj, e⟩ := List.mem_map.1 e
      exact (hall j hj).1 ((tcode_zero (.inr (hall j hj).2.1)).1 e)
    rw [show tyOf xs its L (f + 1) i = _ from htyE] at hty
    -- over others
    have over : ∀ (hn : (L.getD i noPt).subs ≠ []), ((kindOf (L.getD i noPt).tok = 19 ∧ (L.getD i noPt).subs.length = 1) ∨ (kindOf (L.getD i noPt).tok = 14 ∧ (L.getD i noPt).subs.length = 3) ∨ (twoK (kindOf (L.getD i noPt).tok) ∧ (L.getD i noPt).subs.length = 2)) → (∀ l : List Int, l.length = (L.getD i noPt).subs.length → overT (kindOf (L.getD i noPt).tok) (wordT (letVals (xs.take vals.length) vals) fl (toTr (idx (giv xs)) L (f + 1) i)) l = overI (L.getD i noPt).tok.text (wordI xs vals fl (L.getD i noPt).tok) l) → TrOK xs its vals fl L (f + 1) i := fun hn hk hov => by
      refine ⟨⟨?_, hwk⟩, ?_, ?_⟩
      · rw [toTr]
        rcases hk with ⟨h1, h2⟩ | ⟨h1, h2⟩ | ⟨h1, h2⟩
        · exact .inr (.inl ⟨h1, by obtain ⟨a, e⟩ := List.length_eq_one_iff.1 h2; exact ⟨_, by rw [e]; rfl⟩⟩)
        · exact .inr (.inr (.inl ⟨h1, by obtain ⟨a, b, c, e⟩ := len_three h2; exact ⟨_, _, _, by rw [e]; rfl⟩⟩))
        · exact .inr (.inr (.inr ⟨h1, by obtain ⟨a, b, e⟩ := len_two h2; exact ⟨_, _, by rw [e]; rfl⟩⟩))
      · rw [htyE, (ty_over hT.2.1 hn fun j hj => (hall j hj).2.1).1, toTr, tyTr]
        simp only [List.map_eq_nil_iff]
        rw [if_neg hn, hmt]
        exact over_same hz (by simpa using hk)
      · have e := hov ((L.getD i noPt).subs.map (tellF xs vals fl L f)) (by simp)
        rw [tellF, ← e, evT]
        conv => lhs; rw [toTr]
        simp only [hmv]
        rfl
    rcases hT.2.1 with ⟨ha, hs⟩ | ⟨hw, hl⟩ | ⟨hw, hl⟩ | ⟨m, _, hj, hl⟩
    · -- a word
      have htw := hW i hT.1
      rw [hs] at hty
      have hkn : (toTr (idx (giv xs)) L (f + 1) i).kids = [] := by rw [toTr]; show List.map _ _ = []; rw [hs]; rfl
      have leaf : leafK (kindOf (L.getD i noPt).tok) → (kindOf (L.getD i noPt).tok = 1 → In64 (nmOf (L.getD i noPt).tok)) → (kindOf (L.getD i noPt).tok = 2 → 0 ≤ idx (giv xs) (ownOf (L.getD i noPt).tok)) →
          wordTy (letTys (xs.take its.length) its) (toTr (idx (giv xs)) L (f + 1) i) = tcode (UInt8.ofNat (tyCase xs its (L.getD i noPt).tok [])) → wordT (letVals (xs.take vals.length) vals) fl (toTr (idx (giv xs)) L (f + 1) i) = wordI xs vals fl (L.getD i noPt).tok → TrOK xs its vals fl L (f + 1) i := fun k1 k2 k3 k4 k5 => by
        refine ⟨⟨.inl ⟨k1, hkn, k2, fun e => ?_⟩, hwk⟩, ?_, ?_⟩
        · rw [toTr] at e ⊢
          simp only [] at e ⊢
          rw [if_pos e]; exact k3 e
        · rw [htyE, hs, List.map_nil, ← k4, tyTr, if_pos hkn]
        · rw [tellF, hs, evT]
          rw [hkn]
          exact k5
      by_cases hn : (L.getD i noPt).tok.k = 110
      · have hk : kindOf (L.getD i noPt).tok = 1 := by unfold kindOf; rw [if_pos hn]
        have hm := hN i hT.1 hn
        refine leaf (.inl hk) (fun _ => ?_) (fun e => by omega) ?_ ?_
        · unfold nmOf In64; rw [if_pos hn]; omega
        · have e : tyCase xs its (L.getD i noPt).tok [] = 110 := by unfold tyCase; rw [if_pos hn]
          rw [e, toTr]; unfold wordTy; simp only []; rw [if_pos hk]; rfl
        · rw [toTr]; unfold wordT wordI nmOf; simp only []; rw [if_pos hk, if_pos hn, if_pos hn]
      by_cases ho : (L.getD i noPt).tok.k = 111
      · have hk : kindOf (L.getD i noPt).tok = 2 := kind_two.2 ho
        obtain ⟨hne, h0⟩ := hG i hT.le (by omega) ho
        have hix : ¬ idx (giv (xs.take its.length)) (L.getD i noPt).tok.text < 0 := fun h => by have := (giv_ix _ hne xs its.length).1 h; omega
        have hke := giv_keep its.length (xs := xs) (s := (L.getD i noPt).tok.text) (by omega)
        have hown : ownOf (L.getD i noPt).tok = (L.getD i noPt).tok.text := by unfold ownOf; rw [if_pos ho]
        refine leaf (.inr (.inl hk)) (fun e => by omega) (fun _ => by rw [hown, hke]; omega) ?_ ?_
        · have e : tyCase xs its (L.getD i noPt).tok [] = (its.getD (letIx xs (L.getD i noPt).tok.text its.length).toNat 0).toNat := by
            unfold tyCase; rw [if_neg (by omega), if_pos ho]
          rw [e, UInt8.ofNat_toNat, toTr]
          unfold wordTy
          simp only []
          rw [if_neg (by omega), if_pos hk, if_pos hk, hown, hke]
          exact letTys_at _ hne xs its hle h0
        · rw [toTr]
          unfold wordT wordI
          simp only []
          rw [if_neg (by omega), if_pos hk, if_pos hk, if_neg hn, if_pos ho, hown, hke]
          rw [← hvl] at h0 ⊢
          exact letVals_at _ hne xs vals (by omega) h0
      · obtain ⟨hm, hk, h20, h35⟩ := alone_kind htw ha hn ho
        refine leaf (.inr (.inr ⟨h20, h35⟩)) (fun e => by omega) (fun e => by omega) ?_ ?_
        · rw [(ty_leaf xs its htw ha ho).1, toTr, hs]
          exact word_same _ _ _ ⟨h20, h35⟩
        · rw [word_kind htw ha hn ho, toTr]
          unfold wordT
          simp only []
          rw [if_neg (by omega), if_neg (by omega)]; rfl
    · obtain ⟨e, hk⟩ := isW_text hw
      have hkk : kindOf (L.getD i noPt).tok = 19 := by rw [kind_word hk, e]; decide
      refine over (by intro h; rw [h] at hl; simp at hl) (.inl ⟨hkk, hl⟩) fun l hll => ?_
      rw [hl] at hll
      obtain ⟨a, rfl⟩ := List.length_eq_one_iff.1 hll
      rfl
    · obtain ⟨e, hk⟩ := isW_text hw
      have hkk : kindOf (L.getD i noPt).tok = 14 := by rw [kind_word hk, e]; decide
      refine over (by intro h; rw [h] at hl; simp at hl) (.inr (.inl ⟨hkk, hl⟩)) fun l hll => ?_
      rw [hl] at hll
      obtain ⟨a, b, c, rfl⟩ : ∃ a b c, l = [a, b, c] := by
        match l, hll with
        | [a, b, c], _ => exact ⟨a, b, c, rfl⟩
      rfl
    · obtain ⟨e, hk⟩ := joins_text hj
      have hkk : kindOf (L.getD i noPt).tok = kn (L.getD i noPt).tok.text := kind_word hk
      refine over (by intro h; rw [h] at hl; simp at hl) (.inr (.inr ⟨by rw [hkk]; exact two_kinds _ e, hl⟩)) fun l hll => ?_
      rw [hl] at hll
      obtain ⟨a, b, rfl⟩ : ∃ a b, l = [a, b] := by
        match l, hll with
        | [a, b], _ => exact ⟨a, b, rfl⟩
      show two2 _ _ _ = twoI _ _ _
      rw [hkk]; exact two_text e a b
end Go.Proofs.YtfkdailfcmnjlaaGreatDoor

namespace Go.Proofs.YtfkdailfcmnjlaaGreatDoor
open Go Go.RowKit
set_option maxRecDepth 100000

theorem fields_t {fl : List Int} (h : FieldsOK fl) : FieldsT fl := fun n hn => by
  have h1 := h.has n (by omega)
  refine ⟨h1.1, fun e => h1.2 ?_⟩
  have : n = 0 ∨ n = 1 ∨ n = 2 ∨ n = 3 ∨ n = 4 ∨ n = 5 ∨ n = 6 ∨ n = 7 ∨ n = 8 := by omega
  rcases this with rfl | rfl | rfl | rfl | rfl | rfl | rfl | rfl | rfl <;> first | rfl | (exfalso; revert e; decide)
theorem tcode_two {c : UInt8} (h : tcode c = 2) : c = 116 := by
  unfold tcode at h
  split at h
  · simp at h
  · split at h
    · rename_i e; exact UInt8.toNat_inj.1 e
    · split at h <;> simp at h
theorem lets_has : ∀ (xs : List Itm) (its : List UInt8) (vals : List Int), vals.length = its.length → (∀ i, i < its.length → Has (its.getD i 0) (vals.getD i 0)) → LetsT (letTys xs its) (letVals xs vals)
  | [], its, vals, _, _ => fun i hi => by cases its <;> simp [letTys] at hi
  | x :: xs, [], vals, _, _ => fun i hi => by simp [letTys] at hi
  | x :: xs, c :: its, [], h, _ => by simp at h
  | x :: xs, c :: its, v :: vals, h, hh => by
    have ih := lets_has xs its vals (by simpa using h) fun i hi => by have := hh (i + 1) (by simpa using hi); simpa using this
    rw [letTys, letVals]
    split
    · exact ih
    · intro i hi
      cases i with
      | zero =>
        have h0 := hh 0 (by simp)
        simp only [List.getD_cons_zero] at h0 ⊢
        exact ⟨h0.1, fun e => h0.2 (tcode_two e)⟩
      | succ i => rw [List.getD_cons_succ] at hi ⊢; rw [List.getD_cons_succ]; exact ih i hi

/-- At an item, with what the ones ahead told, and their types. -/
def MeanAt2 (xs : List Itm) (L : List Pt) (j : Nat) (vals : List Int) : Prop :=
  ∃ its fr, ValsOK its vals ∧ its.length = j ∧ TreesAt L (xs.drop j) fr ∧ namesAt xs L (xs.drop j) fr j = none ∧ typesAt xs L (xs.drop j) its = none ∧ ∀ c ∈ its, isTy c
theorem MeanOK.start2 {L : List Pt} {xs : List Itm} (h : MeanOK L xs) : MeanAt2 xs L 0 [] :=
  ⟨[], 0, ⟨rfl, fun i hi => by simp at hi⟩, rfl, h.print.trees, h.names, h.types, by simp⟩
/-- What there is for an item. -/
structure ItemOK (xs : List Itm) (L : List Pt) (fl : List Int) (j : Nat) (vals : List Int) (lt : List Nat) : Prop where
  tree : ∃ lo, TreeF ((xs.getD j noItm).top + 1) L lo (xs.getD j noItm).top
  wf : WfT ((xs.getD j noItm).top + 1) (toTr (idx (giv xs)) L ((xs.getD j noItm).top + 1) (xs.getD j noItm).top)
  ty : tyTr lt ((xs.getD j noItm).top + 1) (toTr (idx (giv xs)) L ((xs.getD j noItm).top + 1) (xs.getD j noItm).top) ≠ 0
  ev : evT (letVals (xs.take j) vals) fl ((xs.getD j noItm).top + 1) (toTr (idx (giv xs)) L ((xs.getD j noItm).top + 1) (xs.getD j noItm).top) = tellF xs vals fl L ((xs.getD j noItm).top + 1) (xs.getD j noItm).top
  lets : LetsT lt (letVals (xs.take j) vals)
  len : lt.length ≤ (letVals (xs.take j) vals).length
theorem MeanAt2.item {xs : List Itm} {L : List Pt} {fl : List Int} {j : Nat} {vals : List Int} (hL : PartsOK L) (hP : PlainOK L) (h : MeanAt2 xs L j vals) (hj : j < xs.length) : (∃ lt, ItemOK xs L fl j vals lt) ∧ vals.length = j := by
  obtain ⟨its, fr, hV, hl, hT, hN, hY, hI⟩ := h
  rw [drop_head hj noItm] at hT hN hY
  have hg : Given xs its.length L fr ((xs.getD j noItm).top + 1) := by rw [hl]; exact (names_given hL hT.1 hT.2.1 hN).1
  have hty : tyOf xs its L ((xs.getD j noItm).top + 1) (xs.getD j noItm).top ≠ 0 := fun e => by
    rw [typesAt, if_pos (.inl (by rw [e]; rfl))] at hY; simp at hY
  have hvl := hV.len
  have ht := to_tr (vals := vals) (fl := fl) hP.tokw hI (by omega) hvl hP.num _ hT.1.fit hg hty
  have e1 : letVals (xs.take vals.length) vals = letVals (xs.take j) vals := by rw [hvl, hl]
  have h1 := ht.ty
  rw [hl] at h1
  refine ⟨⟨letTys (xs.take j) its, ⟨fr, hT.1.fit⟩, ht.wf, ?_, by rw [← e1]; exact ht.ev, lets_has _ _ _ hvl fun i hi => hV.has i hi, ?_⟩, by omega⟩
  · rw [h1]
    intro e
    rcases tyOf_ty hP.tokw hI _ hT.1.fit hg with h0 | h0
    · exact hty h0
    · exact hty ((tcode_zero (.inr h0)).1 e)
  · rw [letTys_len _ _ (by simp; omega), letVals_len _ _ (by simp; omega)]; exact Nat.le_refl _
theorem MeanAt2.next {xs : List Itm} {L : List Pt} {fl : List Int} {j : Nat} {vals : List Int} (hL : PartsOK L) (hP : PlainOK L) (hF : FieldsOK fl) (h : MeanAt2 xs L j vals) (hj : j < xs.length) :
    MeanAt2 xs L (j + 1) (vals ++ [tellF xs vals fl L ((xs.getD j noItm).top + 1) (xs.getD j noItm).top]) := by
  obtain ⟨its, fr, hV, hl, hT, hN, hY, hI⟩ := h
  rw [drop_head hj noItm] at hT hN hY
  obtain ⟨hg0, hn2⟩ := names_given hL hT.1 hT.2.1 hN
  have hg : Given xs its.length L fr ((xs.getD j noItm).top + 1) := by rw [hl]; exact hg0
  rw [typesAt] at hY
  by_cases hc : (tyOf xs its L ((xs.getD j noItm).top + 1) (xs.getD j noItm).top).toNat = 0 ∨ ((xs.getD j noItm).name = [] ∧ (tyOf xs its L ((xs.getD j noItm).top + 1) (xs.getD j noItm).top).toNat ≠ 116)
  · rw [if_pos hc] at hY; simp at hY
  · rw [if_neg hc] at hY
    have hne : tyOf xs its L ((xs.getD j noItm).top + 1) (xs.getD j noItm).top ≠ 0 := fun e => hc (.inl (by rw [e]; rfl))
    refine ⟨its ++ [tyOf xs its L ((xs.getD j noItm).top + 1) (xs.getD j noItm).top], (xs.getD j noItm).parts, hV.snoc ?_, by simp [hl], hT.2.2, hn2, hY, ?_⟩
    · exact tell_has hV hF hP.num _ hT.1.fit hg hne
    · intro c hcm
      simp only [List.mem_append, List.mem_singleton] at hcm
      rcases hcm with hcm | rfl
      · exact hI c hcm
      · rcases tyOf_ty hP.tokw hI _ hT.1.fit hg with h0 | h0
        · exact absurd h0 hne
        · exact h0
/-- A row that grew in a region. -/
theorem far1d {w w1 : World} {o : Obj} {row : Option Nat} {b : Nat} (hg : ((w.alloc o).drew).grownBy w1 row) (hb : b < w.heap.size) (hne : some b ≠ row) : w1.heap[b]? = w.heap[b]? := by
  rw [hg.block b (by simp; omega) hne]
  exact Below.heap_alloc w o b hb
theorem news_one (w : World) (cs : List Value) (t : TypeId) : ∀ j u, cs[j]? = some u → ((w.alloc (.cells cs.toArray t)).drew).cell? ((⟨w.heap.size, 0, none⟩ : Addr).add j) = some u := by
  have h := World.news_of_block (w := (w.alloc (.cells cs.toArray t)).drew) (B := w.heap.size) (cs := cs.toArray) (t := t) (fr := (0, 0)) (heap_alloc_new w (.cells cs.toArray t))
  simpa using h
end Go.Proofs.YtfkdailfcmnjlaaGreatDoor

namespace Go.Proofs.YtfkdailfcmnjlaaGreatDoor
open Go Go.RowKit
set_option maxRecDepth 100000
attribute [local go_sem ↓] Go.wp_at_zero Go.wp_at_succ
variable {bs : Nat}

theorem info_val : (Tryz.prog.info? 112).map (fun i => (i.zero, i.size, i.bytes)) = some (some (.int .i64 0), 1, 8) := by kernel_rfl
/-- A row of numbers. -/
theorem val_row {w : World} {base : Nat} {v : Value} {l : List Int} (h : w.ownsRow base 112 1 v l.length (intCells l)) : ∃ a cap, v = .slice a l.length cap ∧ IntAt w a l := by
  obtain ⟨hl, h⟩ := h
  rcases h with ⟨rfl, h0⟩ | ⟨g, cap, cur, rfl, hb, hg, h1, h2, h3, h4⟩
  · exact ⟨none, 0, by rw [h0], fun k hk => by omega⟩
  · refine ⟨_, cap, rfl, fun k hk => ⟨g, rfl, ?_⟩⟩
    rw [cell_of_row w g k _ _ _ hg]
    have e1 : cur[k]? = (cur.toList.take (l.length * 1))[k]? := by
      rw [List.getElem?_take_of_lt (by omega)]; simp
    rw [e1, h4]
    unfold intCells
    simp [hk, List.getD_eq_getElem?_getD]
/-- The teller's block. -/
def telObj (fl : List Int) (lv : Value) : Obj := .cells #[.int .i64 (fl.getD 0 0), .int .i64 (fl.getD 1 0), .int .i64 (fl.getD 2 0), .int .i64 (fl.getD 3 0), .int .i64 (fl.getD 4 0), .int .i64 (fl.getD 5 0), .int .i64 (fl.getD 6 0), .int .i64 (fl.getD 7 0), .int .i64 (fl.getD 8 0), lv] 181 (0, 0)
def flV (fl : List Int) : Value := .agg #[.int .i64 (fl.getD 0 0), .int .i64 (fl.getD 1 0), .int .i64 (fl.getD 2 0), .int .i64 (fl.getD 3 0), .int .i64 (fl.getD 4 0), .int .i64 (fl.getD 5 0), .int .i64 (fl.getD 6 0), .int .i64 (fl.getD 7 0), .int .i64 (fl.getD 8 0)]
theorem tel_at {w : World} {tb : Nat} {fl : List Int} {lv : Value} (h : w.heap[tb]? = some (telObj fl lv)) : TelAt w tb fl lv := by
  unfold telObj at h
  have hc := fun j => cell_of_row w tb j _ _ _ h
  refine ⟨fun i hi => ?_, hc 9⟩
  have : i = 0 ∨ i = 1 ∨ i = 2 ∨ i = 3 ∨ i = 4 ∨ i = 5 ∨ i = 6 ∨ i = 7 ∨ i = 8 := by omega
  rcases this with rfl | rfl | rfl | rfl | rfl | rfl | rfl | rfl | rfl
  · exact hc 0
  · exact hc 1
  · exact hc 2
  · exact hc 3
  · exact hc 4
  · exact hc 5
  · exact hc 6
  · exact hc 7
  · exact hc 8
theorem meanL_at {xs : List Itm} {fl : List Int} {L : List Pt} {k : Nat} (h : k < xs.length) (vals : List Int) (n : Nat) : meanL xs fl L (xs.drop k) vals n = if (xs.getD k noItm).name = [] then (if tellF xs vals fl L ((xs.getD k noItm).top + 1) (xs.getD k noItm).top = 1 then some ((xs.getD k noItm).allow, n + 1) else meanL xs fl L (xs.drop (k + 1)) (vals ++ [tellF xs vals fl L ((xs.getD k noItm).top + 1) (xs.getD k noItm).top]) (n + 1))
    else meanL xs fl L (xs.drop (k + 1)) (vals ++ [tellF xs vals fl L ((xs.getD k noItm).top + 1) (xs.getD k noItm).top]) n := by
  rw [drop_head h noItm, meanL]

/-- What Mean keeps from item to item. -/
def MeanRel (bs : Nat) (L : List Pt) (xs : List Itm) (ys : List (Tok × Tok × Nat × Int)) (fl : List Int) (w : World) (r : Bool × Nat) (k : Nat) (lv : Value) (wr : World) : Prop :=
  ∃ (vals : List Int) (l q : Nat), MeanAt2 xs L k vals ∧ r = (meanL xs fl L (xs.drop k) vals q).getD (false, 0) ∧ Numb l q (xs.drop k) (ys.drop k) ∧ ItemsAt (CondS bs L (N1 (idx (giv xs))) w) (xs.drop k) (ys.drop k) ∧ wr.ownsRow (w.heap.size + 3) 112 1 lv (letVals (xs.take k) vals).length (intCells (letVals (xs.take k) vals)) ∧ q ≤ k

theorem below_far3 {w w5 w3 : World} {o : Obj} {base : Nat} {e : TypeId} {size : Nat} {v : Value} {n : Nat} {l : List Value} (hB : Below w.heap.size w w5) (hown : w5.ownsRow base e size v n l) (hg : (w5.alloc o).grownBy w3 v.ownBlock) (hb : w.heap.size ≤ base) : Below w.heap.size w w3 := by
  have hs := hB.size
  have hs2 := hg.size
  simp at hs2
  refine ⟨hg.os.trans hB.os, hg.tape.trans hB.tape, hg.output.trans hB.output, by omega, fun k hk => ?_⟩
  rw [hg.block k (by simp; omega) (fun e => by have := (hown.lt _ e.symm).1; omega), Below.heap_alloc w5 o k (by omega)]
  exact hB.block k hk
set_option maxHeartbeats 8000000 in
theorem pmean_any {L : List Pt} {xs : List Itm} {ys : List (Tok × Tok × Nat × Int)} {base : Nat} {v : Value} {w : World} {fl : List Int} (hP : PolAt bs L xs base v ys w) (hM : MeanOK L xs) (hF : FieldsOK fl) :
    Calls Tryz.prog 39 #[v, flV fl] w fun e w' => e = .returned (verV ((meanL xs fl L xs [] 0).getD (false, 0))) ∧ Below w.heap.size w w' := by
  obtain ⟨a, cap, rfl, hcell⟩ := row_cells hP.row
  obtain ⟨i0, hi, hz0, hz1, hz2⟩ := info_parts info_val
  have hlen : Hid _ := hP.items.len
  have hyl := hP.few
  have HC : Hid _ := hcell
  have HL : Hid (PartsOK L) := hM.parts
  have HPL : Hid (PlainOK L) := hM.print.parts
  have HF : Hid (FieldsOK fl) := hF
  have HF2 : Hid (FieldsT fl) := fields_t hF
  have HVV : Hid (verV = fun r => .agg #[.bool r.1, .int .i64 r.2, .int .i64 0]) := rfl
  generalize hr : (meanL xs fl L xs [] 0).getD (false, 0) = r at *
  have hrel0 : MeanRel bs L xs ys fl w r 0 (.slice none 0 0) (((w.alloc (.cells #[.int .i64 (fl.getD 0 0), .int .i64 (fl.getD 1 0), .int .i64 (fl.getD 2 0), .int .i64 (fl.getD 3 0), .int .i64 (fl.getD 4 0), .int .i64 (fl.getD 5 0), .int .i64 (fl.getD 6 0), .int .i64 (fl.getD 7 0), .int .i64 (fl.getD 8 0)] 114 (0, 0))).alloc (.cells #[.bool false, .int .i64 0, .int .i64 0] 40 (0, 0))).alloc (telObj fl (.slice none 0 0))) :=
    ⟨[], 0, 0, hM.start2, hr.symm, hP.numb, hP.items, World.ownsRow_nil _ _ _ _, Nat.le_refl _⟩
  have hB0 : Below w.heap.size w (((w.alloc (.cells #[.int .i64 (fl.getD 0 0), .int .i64 (fl.getD 1 0), .int .i64 (fl.getD 2 0), .int .i64 (fl.getD 3 0), .int .i64 (fl.getD 4 0), .int .i64 (fl.getD 5 0), .int .i64 (fl.getD 6 0), .int .i64 (fl.getD 7 0), .int .i64 (fl.getD 8 0)] 114 (0, 0))).alloc (.cells #[.bool false, .int .i64 0, .int .i64 0] 40 (0, 0))).alloc (telObj fl (.slice none 0 0))) := (((Below.refl _ _).alloc (Nat.le_refl _) _).alloc (by simp) _).alloc (by simp; omega) _
  have hT0 : (((w.alloc (.cells #[.int .i64 (fl.getD 0 0), .int .i64 (fl.getD 1 0), .int .i64 (fl.getD 2 0), .int .i64 (fl.getD 3 0), .int .i64 (fl.getD 4 0), .int .i64 (fl.getD 5 0), .int .i64 (fl.getD 6 0), .int .i64 (fl.getD 7 0), .int .i64 (fl.getD 8 0)] 114 (0, 0))).alloc (.cells #[.bool false, .int .i64 0, .int .i64 0] 40 (0, 0))).alloc (telObj fl (.slice none 0 0))).heap[w.heap.size + 1 + 1]? = some (telObj fl (.slice none 0 0)) := by
    have e := heap_alloc_new ((w.alloc (.cells #[.int .i64 (fl.getD 0 0), .int .i64 (fl.getD 1 0), .int .i64 (fl.getD 2 0), .int .i64 (fl.getD 3 0), .int .i64 (fl.getD 4 0), .int .i64 (fl.getD 5 0), .int .i64 (fl.getD 6 0), .int .i64 (fl.getD 7 0), .int .i64 (fl.getD 8 0)] 114 (0, 0))).alloc (.cells #[.bool false, .int .i64 0, .int .i64 0] 40 (0, 0))) (telObj fl (.slice none 0 0)); rw [World.size_alloc, World.size_alloc] at e; exact e
  have hV0 : (((w.alloc (.cells #[.int .i64 (fl.getD 0 0), .int .i64 (fl.getD 1 0), .int .i64 (fl.getD 2 0), .int .i64 (fl.getD 3 0), .int .i64 (fl.getD 4 0), .int .i64 (fl.getD 5 0), .int .i64 (fl.getD 6 0), .int .i64 (fl.getD 7 0), .int .i64 (fl.getD 8 0)] 114 (0, 0))).alloc (.cells #[.bool false, .int .i64 0, .int .i64 0] 40 (0, 0))).alloc (telObj fl (.slice none 0 0))).heap[w.heap.size + 1]? = some (.cells #[.bool false, .int .i64 0, .int .i64 0] 40 (0, 0)) := by
    rw [Below.heap_alloc _ _ _ (by simp)]
    have e := heap_alloc_new (w.alloc (.cells #[.int .i64 (fl.getD 0 0), .int .i64 (fl.getD 1 0), .int .i64 (fl.getD 2 0), .int .i64 (fl.getD 3 0), .int .i64 (fl.getD 4 0), .int .i64 (fl.getD 5 0), .int .i64 (fl.getD 6 0), .int .i64 (fl.getD 7 0), .int .i64 (fl.getD 8 0)] 114 (0, 0))) (.cells #[.bool false, .int .i64 0, .int .i64 0] 40 (0, 0)); rw [World.size_alloc] at e; exact e
  have hS0 : w.heap.size + 3 ≤ (((w.alloc (.cells #[.int .i64 (fl.getD 0 0), .int .i64 (fl.getD 1 0), .int .i64 (fl.getD 2 0), .int .i64 (fl.getD 3 0), .int .i64 (fl.getD 4 0), .int .i64 (fl.getD 5 0), .int .i64 (fl.getD 6 0), .int .i64 (fl.getD 7 0), .int .i64 (fl.getD 8 0)] 114 (0, 0))).alloc (.cells #[.bool false, .int .i64 0, .int .i64 0] 40 (0, 0))).alloc (telObj fl (.slice none 0 0))).heap.size := by simp
  have H0 : Hid _ := And.intro hrel0 (And.intro hB0 (And.intro hT0 (And.intro hV0 hS0)))
  clear hP hM hF hcell hr hrel0 hB0 hT0 hV0 hS0
  unfold flV
  unfold telObj at H0
  generalize hf0 : fl.getD 0 0 = f0 at *
  generalize hf1 : fl.getD 1 0 = f1 at *
  generalize hf2 : fl.getD 2 0 = f2 at *
  generalize hf3 : fl.getD 3 0 = f3 at *
  generalize hf4 : fl.getD 4 0 = f4 at *
  generalize hf5 : fl.getD 5 0 = f5 at *
  generalize hf6 : fl.getD 6 0 = f6 at *
  generalize hf7 : fl.getD 7 0 = f7 at *
  generalize hf8 : fl.getD 8 0 = f8 at *
  have HTO : Hid (∀ lv, telObj fl lv = .cells #[.int .i64 f0, .int .i64 f1, .int .i64 f2, .int .i64 f3, .int .i64 f4, .int .i64 f5, .int .i64 f6, .int .i64 f7, .int .i64 f8, lv] 181 (0, 0)) := fun lv => by unfold telObj; rw [hf0, hf1, hf2, hf3, hf4, hf5, hf6, hf7, hf8]
  clear hf0 hf1 hf2 hf3 hf4 hf5 hf6 hf7 hf8
  go_enter Tryz.func39, Tryz.ntmps39
  go_wp2_with fail
  obtain ⟨hrel0, hB0, hT0, hV0, hS0⟩ := H0.out
  clear H0
  generalize (((w.alloc (.cells #[.int .i64 f0, .int .i64 f1, .int .i64 f2, .int .i64 f3, .int .i64 f4, .int .i64 f5, .int .i64 f6, .int .i64 f7, .int .i64 f8] 114 (0, 0))).alloc (.cells #[.bool false, .int .i64 0, .int .i64 0] 40 (0, 0))).alloc (.cells #[.int .i64 f0, .int .i64 f1, .int .i64 f2, .int .i64 f3, .int .i64 f4, .int .i64 f5, .int .i64 f6, .int .i64 f7, .int .i64 f8, .slice none 0 0] 181 (0, 0))) = wz at *
  go_loopw [14] (fun kv wr => ∃ (k : Nat) (lv : Value), k ≤ ys.length ∧ kv = .int .i64 k ∧ Hid (MeanRel bs L xs ys fl w r k lv wr) ∧ Below w.heap.size w wr ∧ wr.heap[w.heap.size + 1 + 1]? = some (.cells #[.int .i64 f0, .int .i64 f1, .int .i64 f2, .int .i64 f3, .int .i64 f4, .int .i64 f5, .int .i64 f6, .int .i64 f7, .int .i64 f8, lv] 181 (0, 0)) ∧ wr.heap[w.heap.size + 1]? = some (.cells #[.bool false, .int .i64 0, .int .i64 0] 40 (0, 0)) ∧ w.heap.size + 3 ≤ wr.heap.size) (fun kv _ => ys.length - (intOf kv).toNat)
  case atStart => exact ⟨0, _, Nat.zero_le _, rfl, hrel0, hB0, hT0, hV0, hS0⟩
  case round =>
    clear hrel0 hB0 hT0 hV0 hS0
    obtain ⟨k, lv, hk, rfl, HR, hbw, hTw, hVw, hSw⟩ := hrel
    by_cases hlt : k < ys.length
    · have hltx : k < xs.length := by rw [← hlen.out]; exact hlt
      obtain ⟨vals, nl, q, hA, hre, hnu, hit, hown, hqk⟩ := HR.out
      clear HR
      obtain ⟨⟨lt, hI⟩, hvl⟩ := hA.item (fl := fl) HL.out HPL.out hltx
      have HNX : Hid _ := hA.next HL.out HPL.out HF.out hltx
      have HML : Hid _ := meanL_at (fl := fl) (L := L) hltx vals q
      have HTX : Hid _ := take_snoc hltx noItm
      have hgl : (letVals (xs.take k) vals).length ≤ k := by
        rw [letVals_len _ _ (by simp; omega)]; exact Nat.le_trans (giv_len _) (by simp; omega)
      have HSN : Hid (∀ x t, letVals (xs.take k ++ [x]) (vals ++ [t]) = if x.name = [] then letVals (xs.take k) vals else letVals (xs.take k) vals ++ [t]) := fun x t => letVals_snoc _ _ _ _ (by simp; omega)
      rw [drop_head hltx noItm, drop_head hlt (zTok, zTok, 0, 0)] at hnu hit
      obtain ⟨g, rfl, ⟨gcs, hgc⟩, hcells⟩ := HC.out k hlt
      obtain ⟨⟨lo, hTF⟩, hwf, hty, hev, hlets, hlln⟩ := hI
      generalize xs.getD k noItm = x at *
      generalize ys.getD k (zTok, zTok, 0, 0) = y at *
      obtain ⟨⟨hCd, hO⟩, hit2⟩ := hit
      obtain ⟨t0, u0, b, wh⟩ := y
      simp only [] at hCd hO
      unfold Numb at hnu
      simp only [] at hnu
      have hct : ∀ j, j < 10 → wr.cell? ⟨g, k * 10 + j, none⟩ = (icell (t0, u0, b, wh))[j]? := fun j hj => by
        rw [hbw.cell (p := ⟨g, k * 10 + j, none⟩) (lt_of_get hgc)]; exact hcells j hj
      have c0 : wr.cell? ⟨g, k * 10, none⟩ = some (.int .i64 (kindOf t0)) := hct 0 (by omega)
      have c1 : wr.cell? ⟨g, k * 10 + 1, none⟩ = some (.int .i64 t0.pl) := hct 1 (by omega)
      have c2 : wr.cell? ⟨g, k * 10 + 2, none⟩ = some (.int .i64 (nmOf t0)) := hct 2 (by omega)
      have c3 : wr.cell? ⟨g, k * 10 + 3, none⟩ = some (S (ownOf t0)) := hct 3 (by omega)
      have c4 : wr.cell? ⟨g, k * 10 + 4, none⟩ = some (.int .i64 (kindOf u0)) := hct 4 (by omega)
      have c5 : wr.cell? ⟨g, k * 10 + 5, none⟩ = some (.int .i64 u0.pl) := hct 5 (by omega)
      have c6 : wr.cell? ⟨g, k * 10 + 6, none⟩ = some (.int .i64 (nmOf u0)) := hct 6 (by omega)
      have c7 : wr.cell? ⟨g, k * 10 + 7, none⟩ = some (S (ownOf u0)) := hct 7 (by omega)
      have c8 : wr.cell? ⟨g, k * 10 + 8, none⟩ = some (.int .i64 wh) := hct 8 (by omega)
      have c9 : wr.cell? ⟨g, k * 10 + 9, none⟩ = some (.pointer (some ⟨b, 0, none⟩)) := hct 9 (by omega)
      have hb1 : Below wr.heap.size wr (wr.alloc (itObjW t0 u0 wh (.pointer (some ⟨b, 0, none⟩)))) := (Below.refl _ _).alloc (Nat.le_refl _) _
      have hB1 : Below w.heap.size w (wr.alloc (itObjW t0 u0 wh (.pointer (some ⟨b, 0, none⟩)))) := hbw.trans (hb1.mono hbw.size)
      have hz1' : (wr.alloc (itObjW t0 u0 wh (.pointer (some ⟨b, 0, none⟩)))).heap[wr.heap.size]? = some (itObjW t0 u0 wh (.pointer (some ⟨b, 0, none⟩))) := heap_alloc_new wr _
      obtain ⟨al, capl, rfl, hIn⟩ := val_row hown
      have hTl : TelAt (wr.alloc (itObjW t0 u0 wh (.pointer (some ⟨b, 0, none⟩)))) (w.heap.size + 1 + 1) fl (.slice al (letVals (xs.take k) vals).length capl) := tel_at (by rw [HTO.out, hb1.block _ (lt_of_get hTw)]; exact hTw)
      have W1 := ptell_any hlets HF2.out hlln (by omega) (hCd.tr _ hTF |>.below hB1) hwf hty hTl (hIn.below hb1)
      rw [hev] at W1
      have hown1 := ownsRow_below hown hb1
      have hTw1 := (hb1.block _ (lt_of_get hTw)).trans hTw
      have hVw1 := (hb1.block _ (lt_of_get hVw)).trans hVw
      generalize tellF xs vals fl L (x.top + 1) x.top = tv at *
      unfold itObjW at hb1 hB1 hz1' W1 hown1 hTw1 hVw1
      have HIT3 : Hid _ := hit2
      have HNU : Hid _ := hnu
      have HO : Hid (ItOf x t0 u0) := hO
      have HRE : Hid _ := hre
      clear hct hcells hit2 hCd hTF hwf hty hev hlets hlln hnu hgc hTl hIn hown hO hre hA hTw hVw hbw
      generalize hkd : kindOf t0 = kd at *
      generalize t0.pl = q1 at *
      generalize nmOf t0 = q2 at *
      generalize ownOf t0 = q3 at *
      generalize kindOf u0 = q4 at *
      generalize u0.pl = q5 at *
      generalize nmOf u0 = q6 at *
      generalize ownOf u0 = q7 at *
      have HKD : Hid _ := hkd
      clear hkd
      rcases itOf_let HO.out with ⟨hn, hk11⟩ | ⟨hn, hk11⟩
      · rw [HKD.out] at hk11
        subst hk11
        have HNN : Hid _ := hn
        have HRE2 : Hid (r = (meanL xs fl L (xs.drop (k + 1)) (vals ++ [tv]) q).getD (false, 0)) := by show _ = _; rw [HRE.out, HML.out, if_neg hn]
        have HNU2 : Hid (Numb (nl + 1) q (xs.drop (k + 1)) (ys.drop (k + 1))) := by
          rcases HNU.out with h | h
          · exact h.2.2
          · exact absurd h.1 hn
        have HLV : Hid (letVals (xs.take (k + 1)) (vals ++ [tv]) = letVals (xs.take k) vals ++ [tv]) := by show _ = _; rw [HTX.out, HSN.out, if_neg hn]
        clear hn HRE HML HNU HSN HTX
        go_wp2_with fail
        refine W1.mono ?_
        rintro e w1 ⟨rfl, hb2⟩
        clear W1 c0 c1 c2 c3 c4 c5 c6 c7 c8 c9
        have hB2 := hB1.trans (hb2.mono hB1.size)
        have hz2' := (hb2.block _ (lt_of_get hz1')).trans hz1'
        have hT2 := (hb2.block _ (lt_of_get hTw1)).trans hTw1
        have hV2 := (hb2.block _ (lt_of_get hVw1)).trans hVw1
        have hown2 := ownsRow_below hown1 hb2
        have hs2 : w.heap.size + 3 ≤ w1.heap.size := Nat.le_trans hSw (Nat.le_trans hb1.size hb2.size)
        obtain ⟨⟨z0, z1, z2, z3, z4, z5, z6, z7, z8, z9⟩, zf⟩ := it_cells hz2'
        have t9 : w1.cell? ⟨w.heap.size + 1 + 1, 9, none⟩ = _ := cell_of_row w1 _ 9 _ _ _ hT2
        simp only [List.getElem?_toArray, List.getElem?_cons_zero, List.getElem?_cons_succ] at t9
        have tfz : ∀ j, w1.frozen? ⟨w.heap.size + 1 + 1, j, none⟩ = false := fun j => by simp [World.frozen?, hT2]
        have htb : w.heap.size + 1 + 1 < w1.heap.size := by omega
        have hne : some (w.heap.size + 1 + 1) ≠ (Value.slice al (letVals (xs.take k) vals).length capl).ownBlock := fun e => by
          have := (hown2.lt _ e.symm).1; omega
        have HB2 : Hid _ := hB2
        have HT2 : Hid _ := hT2
        have HV2 : Hid _ := hV2
        clear hb1 hB1 hz1' hown1 hTw1 hVw1 hb2 hz2' hB2 hT2 hV2
        generalize letVals (xs.take k) vals = lvs at *
        go_wp2_with (
          at_builtin
          go_must (refine wpList_append_lies _ (by rfl) _ _ 179 (by rfl) (w.heap.size + 3) 112 i0 (.int .i64 0) 1 8 Tryz.underlying179 hi hz0 hz1 hz2 (by rfl) (by decide) _ _ _ (by rfl) (hown2.alloc _) ⟨w1.heap.size, 0, none⟩ 1 1 [.int .i64 tv] (by rfl) (by rfl) (World.news_of_block (heap_alloc_new w1 _)) (fun x hx => by simp at hx; rcases hx with rfl; rfl) (by decide) (by unfold maxLen; omega) (by omega) (by simp; omega) _ rfl ?_)
          intro gg cap' w3 hown3 hgrow hat hlt3
          have e0 : w3.heap[w.heap.size + 1 + 1]? = w1.heap[w.heap.size + 1 + 1]? := (hgrow.block _ (by simp; omega) hne).trans (Below.heap_alloc w1 _ _ htb)
          have e1 := (World.cell?_of_block (a := ⟨w.heap.size + 1 + 1, 9, none⟩) e0).trans t9
          have e2 := (World.frozen?_of_block (a := ⟨w.heap.size + 1 + 1, 9, none⟩) e0).trans (tfz 9)
          have HE0 : Hid _ := e0
          have HO3 : Hid _ := hown3
          have HG3 : Hid _ := hgrow
          clear e0 hown3 hgrow)
        go_roundw
        case rel =>
          have hO3 : w3.ownsRow (w.heap.size + 3) 112 1 (.slice (some ⟨gg, 0, none⟩) (lvs.length + 1) cap') (lvs.length + 1) (intCells lvs ++ [.int .i64 tv]) := HO3.out
          have hgb : w.heap.size + 3 ≤ gg := (hO3.lt gg rfl).1
          have hT3 : w3.heap[w.heap.size + 1 + 1]? = _ := HE0.out.trans HT2.out
          have hV3 : w3.heap[w.heap.size + 1]? = _ := (HG3.out.block _ (by simp; omega) (fun e => by have := (hown2.lt _ e.symm).1; omega)).trans ((Below.heap_alloc w1 _ _ (by omega)).trans HV2.out)
          refine ⟨k + 1, .slice (some ⟨gg, 0, none⟩) (lvs.length + 1) cap', by omega, by simp, ⟨vals ++ [tv], nl + 1, q, HNX.out, HRE2.out, HNU2.out, HIT3.out, ?_, by omega⟩, ?_, ?_, ?_, ?_⟩
          · rw [HLV.out]
            have h1 := ownsRow_setCell_other hO3 (a := ⟨w.heap.size + 1 + 1, 9, none⟩) (by simp [Value.ownBlock]; omega) (.slice (some ⟨gg, 0, none⟩) (lvs.length + 1) cap')
            simpa [intCells] using h1
          · exact (below_far3 HB2.out hown2 HG3.out (by omega)).setCell (by simp; omega) _
          · rw [heap_setCell_same w3 _ 9 _ _ _ hT3]; rfl
          · rw [Below.heap_setCell _ _ _ _ (by simp)]; exact hV3
          · have := HG3.out.size; simp at this ⊢; omega
        case measure => simp [intOf]; omega
      · rw [HKD.out] at hk11
        have hkd2 : ((kd : Int) == (11 : Int)) = false := by
          have : ¬ ((kd : Int) = 11) := by omega
          simpa using this
        have hwh : wh = ((q + 1 : Nat) : Int) ∧ Numb nl (q + 1) (xs.drop (k + 1)) (ys.drop (k + 1)) := by
          rcases HNU.out with h | h
          · exact absurd hn h.1
          · exact h.2
        have HNU2 : Hid _ := hwh.2
        have HWH : Hid _ := hwh.1
        have hal : kd = if x.allow then 12 else 13 := by
          rcases HO.out with h | h
          · exact absurd hn h.1
          · rw [← HKD.out]; exact h.2.1
        have hal2 : ((kd : Int) == (12 : Int)) = x.allow := by
          rw [hal]; cases x.allow <;> rfl
        have HLV : Hid (letVals (xs.take (k + 1)) (vals ++ [tv]) = letVals (xs.take k) vals) := by show _ = _; rw [HTX.out, HSN.out, if_pos hn]
        by_cases htv : tv = 1
        · subst htv
          have HE : Hid (r = (x.allow, q + 1)) := by show _ = _; rw [HRE.out, HML.out, if_pos hn, if_pos rfl]; rfl
          clear hn hal HRE HML HNU HSN HTX hwh HNU2 HLV
          go_wp2_with fail
          refine W1.mono ?_
          rintro e w1 ⟨rfl, hb2⟩
          clear W1 c0 c1 c2 c3 c4 c5 c6 c7 c8 c9
          have HB2 : Hid _ := hB1.trans (hb2.mono hB1.size)
          have hz2' := (hb2.block _ (lt_of_get hz1')).trans hz1'
          obtain ⟨⟨z0, z1, z2, z3, z4, z5, z6, z7, z8, z9⟩, zf⟩ := it_cells hz2'
          obtain ⟨⟨v0, v1, v2⟩, vf⟩ := ver_cells ((hb2.block _ (lt_of_get hVw1)).trans hVw1)
          have nz : wr.heap.size ≠ w.heap.size + 1 := by omega
          have nz' := nz.symm
          clear hb1 hB1 hz1' hown1 hTw1 hVw1 hb2 hz2'
          generalize x.allow = xa at *
          go_wp2_with fail
          refine bodyPost_ret (v := .agg #[.bool xa, .int .i64 wh, .int .i64 0]) (by simp [results, Tryz.results39, go_sem, v0, v1, v2, vf]) rfl ?_
          exact ⟨by rw [HE.out, HWH.out]; rfl, ((HB2.out.setCell (by simp) _).setCell (by simp) _).setCell (by simp) _⟩
        · have t1 : (tv == 1) = false := by simpa using htv
          have HRE2 : Hid (r = (meanL xs fl L (xs.drop (k + 1)) (vals ++ [tv]) (q + 1)).getD (false, 0)) := by show _ = _; rw [HRE.out, HML.out, if_pos hn, if_neg htv]
          clear hn hal HRE HML HNU HSN HTX hwh htv hal2
          go_wp2_with fail
          refine W1.mono ?_
          rintro e w1 ⟨rfl, hb2⟩
          clear W1 c0 c1 c2 c3 c4 c5 c6 c7 c8 c9
          have HB2 : Hid _ := hB1.trans (hb2.mono hB1.size)
          have hz2' := (hb2.block _ (lt_of_get hz1')).trans hz1'
          have HT2 : Hid _ := (hb2.block _ (lt_of_get hTw1)).trans hTw1
          have HV2 : Hid _ := (hb2.block _ (lt_of_get hVw1)).trans hVw1
          have hown2 := ownsRow_below hown1 hb2
          have hs2 : w.heap.size + 3 ≤ w1.heap.size := Nat.le_trans hSw (Nat.le_trans hb1.size hb2.size)
          obtain ⟨⟨z0, z1, z2, z3, z4, z5, z6, z7, z8, z9⟩, zf⟩ := it_cells hz2'
          clear hb1 hB1 hz1' hown1 hTw1 hVw1 hb2 hz2'
          go_wp2_with fail
          go_roundw
          case rel => exact ⟨k + 1, _, by omega, by simp, ⟨vals ++ [tv], nl, q + 1, HNX.out, HRE2.out, HNU2.out, HIT3.out, by rw [HLV.out]; exact hown2, by omega⟩, HB2.out, HT2.out, HV2.out, hs2⟩
          case measure => simp [intOf]; omega
    · have hke : k = ys.length := by omega
      subst hke
      obtain ⟨vals, nl, q, hA, hre, hnu, hit, hown, hqk⟩ := HR.out
      have HE : Hid (r = (false, 0)) := by
        show _ = _
        rw [hre, List.drop_of_length_le (by rw [hlen.out]; exact Nat.le_refl _)]; rfl
      obtain ⟨⟨v0, v1, v2⟩, vf⟩ := ver_cells hVw
      have HB : Hid _ := hbw
      clear hA hre hnu hit hown hbw hTw hVw HR
      go_wp2_with fail
      refine bodyPost_ret (v := .agg #[.bool false, .int .i64 0, .int .i64 0]) (by simp [results, Tryz.results39, go_sem, v0, v1, v2, vf]) rfl ?_
      exact ⟨by rw [HE.out]; rfl, ((HB.out.setCell (by simp) _).setCell (by simp) _).setCell (by simp) _⟩
end Go.Proofs.YtfkdailfcmnjlaaGreatDoor
