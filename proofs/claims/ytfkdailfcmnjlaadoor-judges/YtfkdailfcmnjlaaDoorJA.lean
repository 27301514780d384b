/-
  Small facts of memory that the texts of this seat need. What a policy says of an event: plain Lean functions; the document's scalars. Codes: plain Lean functions that say what the document asks of bytes (instructions, what is known at each, the machine). Codes: what is known of the instructions that bytes are; a code that may be one never goes wrong.
-/
import Derived.Test.YtfkdailfcmnjlaaDoorProg
import Derived.WalkKit
import Derived.Deep.QuietTactic
import Derived.BigQuiet
import Derived.WalkSpells
import Derived.Deep.AppendLies
import Derived.Deep.RegionHeld3
import Derived.Deep.DrawnRows
import Derived.Deep.RegionLaw
import Derived.Deep.OwnRows
import Derived.LaidMore
set_option linter.unusedVariables false
set_option linter.unusedSimpArgs false
namespace Go.Proofs.YtfkdailfcmnjlaaDoor
open Go Go.RowKit
set_option maxRecDepth 100000

abbrev S (l : List UInt8) : Value := .string ⟨l.toArray⟩
theorem ret_bool {a b : Bool} (h : a = b) : Ending.returned (.bool a) = .returned (.bool b) := by rw [h]
theorem ret_int {k : IntKind} {a b : Int} (h : a = b) : Ending.returned (.int k a) = .returned (.int k b) := by rw [h]
theorem toList_from (s : List UInt8) (k : Nat) : ((ByteArray.mk s.toArray).extract k s.length).toList = s.drop k := by
  rw [ByteArray.extract_mk, ByteArray.toList_mk]
  exact List.take_of_length_le (by simp)
def cut (l : List UInt8) (a b : Nat) : List UInt8 := (l.drop a).take (b - a)
theorem cut_ex (l : List UInt8) (a b : Nat) : (ByteArray.mk l.toArray).extract a b = ⟨(cut l a b).toArray⟩ := ByteArray.extract_mk l a b
theorem cut_len (l : List UInt8) (a b : Nat) (h : b ≤ l.length) : (cut l a b).length = b - a := by
  unfold cut; simp; omega
theorem bcell {W w1 : World} (hb : Below W.heap.size W w1) : (∀ b o, b < W.heap.size → w1.cell? ⟨b, o, none⟩ = W.cell? ⟨b, o, none⟩) ∧ (∀ b o, b < W.heap.size → w1.frozen? ⟨b, o, none⟩ = W.frozen? ⟨b, o, none⟩) :=
  ⟨fun b o h => hb.cell (p := ⟨b, o, none⟩) h, fun b o h => hb.frozen (p := ⟨b, o, none⟩) h⟩
theorem cell_set_same (w : World) (b i : Nat) (v : Value) (h : (w.cell? ⟨b, i, none⟩).isSome = true) : (w.setCell ⟨b, i, none⟩ v).cell? ⟨b, i, none⟩ = some v := by
  cases e : w.cell? ⟨b, i, none⟩ with
  | none => rw [e] at h; simp at h
  | some u => exact World.cell?_setCell_same _ _ _ e
theorem cell_set_off (w : World) (b i j : Nat) (v : Value) (h : i ≠ j) : (w.setCell ⟨b, i, none⟩ v).cell? ⟨b, j, none⟩ = w.cell? ⟨b, j, none⟩ :=
  World.cell?_setCell_other _ _ _ _ (by simp [h])
theorem some_set (w : World) (b i j : Nat) (v : Value) (h : (w.cell? ⟨b, j, none⟩).isSome = true) : ((w.setCell ⟨b, i, none⟩ v).cell? ⟨b, j, none⟩).isSome = true := by
  by_cases e : i = j
  · subst e; rw [cell_set_same _ _ _ _ h]; rfl
  · rw [cell_set_off _ _ _ _ _ e]; exact h
theorem ownsRow_below {w w' : World} {base : Nat} {e : TypeId} {size : Nat} {v : Value} {n : Nat} {xs : List Value} (h : w.ownsRow base e size v n xs) (hb : Below w.heap.size w w') : w'.ownsRow base e size v n xs := by
  obtain ⟨h1, h2⟩ := h
  refine ⟨h1, ?_⟩
  rcases h2 with h2 | ⟨g, cap, cur, a, b, c, d⟩
  · exact .inl h2
  · refine .inr ⟨g, cap, cur, a, b, ?_, d⟩
    rw [hb.block g ?_]; exact c
    rcases Nat.lt_or_ge g w.heap.size with hlt | hge
    · exact hlt
    · rw [Array.getElem?_eq_none hge] at c; cases c
theorem below_far1 {w w1 w3 : World} {e : TypeId} {size : Nat} {v : Value} {n : Nat} {xs : List Value} {o1 : Obj} (hbw1 : Below w.heap.size w w1) (hown1 : w1.ownsRow w.heap.size e size v n xs) (hg : (w1.alloc o1).grownBy w3 v.ownBlock) : Below w.heap.size w w3 := by
  have h0 := hbw1.size
  exact Below.grown (hbw1.alloc (by omega) _) hg (by simp; omega) (fun j hj => (hown1.lt _ hj).1)
theorem lt_of_get {w : World} {k : Nat} {o : Obj} (h : w.heap[k]? = some o) : k < w.heap.size := by
  rcases Nat.lt_or_ge k w.heap.size with hlt | hge
  · exact hlt
  · rw [Array.getElem?_eq_none hge] at h; cases h
theorem ownsRow_of_block {w w' : World} {base : Nat} {e : TypeId} {size : Nat} {v : Value} {n : Nat} {xs : List Value} (h : w.ownsRow base e size v n xs) (hb : ∀ k, v.ownBlock = some k → w'.heap[k]? = w.heap[k]?) : w'.ownsRow base e size v n xs := by
  obtain ⟨h1, h2⟩ := h
  refine ⟨h1, ?_⟩
  rcases h2 with h2 | ⟨g, cap, cur, a, b, c, d⟩
  · exact .inl h2
  · exact .inr ⟨g, cap, cur, a, b, by rw [hb g (by rw [a]; rfl)]; exact c, d⟩
theorem ownsRow_type {w : World} {base : Nat} {e : TypeId} {size : Nat} {v : Value} {n : Nat} {xs : List Value} (h : w.ownsRow base e size v n xs) {k : Nat} (hk : v.ownBlock = some k) : ∃ cs, w.heap[k]? = some (.cells cs e (0, 0)) := by
  rcases h.2 with ⟨h2, _⟩ | ⟨g, cap, cur, a, b, c, d⟩
  · rw [h2] at hk; cases hk
  · rw [a] at hk; simp [Value.ownBlock] at hk; subst hk; exact ⟨cur, c⟩
theorem ownsRow_weak {w : World} {base base' : Nat} {e : TypeId} {size : Nat} {v : Value} {n : Nat} {xs : List Value} (h : w.ownsRow base e size v n xs) (hb : base' ≤ base) : w.ownsRow base' e size v n xs := by
  obtain ⟨h1, h2⟩ := h
  refine ⟨h1, ?_⟩
  rcases h2 with h2 | ⟨g, cap, cur, a, b, r⟩
  · exact .inl h2
  · exact .inr ⟨g, cap, cur, a, by omega, r⟩
theorem below_far3 {w w5 w3 : World} {o : Obj} {base : Nat} {e : TypeId} {size : Nat} {v : Value} {n : Nat} {l : List Value} (hB : Below w.heap.size w w5) (hown : w5.ownsRow base e size v n l) (hg : (w5.alloc o).grownBy w3 v.ownBlock) (hb : w.heap.size ≤ base) : Below w.heap.size w w3 := by
  have hs := hB.size
  have hs2 := hg.size
  simp at hs2
  refine ⟨hg.os.trans hB.os, hg.tape.trans hB.tape, hg.output.trans hB.output, by omega, fun k hk => ?_⟩
  rw [hg.block k (by simp; omega) (fun e => by have := (hown.lt _ e.symm).1; omega), Below.heap_alloc w5 o k (by omega)]
  exact hB.block k hk
def flV (fl : List Int) : Value := .agg #[.int .i64 (fl.getD 0 0), .int .i64 (fl.getD 1 0), .int .i64 (fl.getD 2 0), .int .i64 (fl.getD 3 0), .int .i64 (fl.getD 4 0), .int .i64 (fl.getD 5 0), .int .i64 (fl.getD 6 0), .int .i64 (fl.getD 7 0), .int .i64 (fl.getD 8 0)]
end Go.Proofs.YtfkdailfcmnjlaaDoor

namespace Go.Proofs.YtfkdailfcmnjlaaDoor
open Go Go.RowKit
set_option maxRecDepth 100000
attribute [local go_sem ↓] Go.wp_at_zero Go.wp_at_succ

/-- Within 64 bits. -/
def In64 (a : Int) : Prop := -9223372036854775808 ≤ a ∧ a ≤ 9223372036854775807
/-- A number brought within 64 bits. -/
def clampI (a : Int) : Int := if 9223372036854775807 < a then 9223372036854775807 else if a < -9223372036854775808 then -9223372036854775808 else a
theorem clamp_in (a : Int) : In64 (clampI a) := by unfold clampI In64; split; omega; split <;> omega
def truthI (b : Bool) : Int := if b then 1 else 0
def knownI (n : Int) : Int := if n < 0 ∨ 4 < n then 0 else n
/-- What a sign makes of two. -/
def twoI (s : List UInt8) (a b : Int) : Int :=
  if s = [43] then clampI (a + b) else if s = [45] then clampI (a - b) else if s = [61] then truthI (a == b) else if s = [60] then truthI (decide (a < b)) else if s = [60, 61] then truthI (decide (a ≤ b))
  else if s = [111, 114] then truthI (a == 1 || b == 1) else truthI (a == 1 && b == 1)
theorem wrap64 {x : Int} (h : In64 x) : IntKind.i64.wrap x = x := by
  unfold In64 at h
  simp [IntKind.wrap, IntKind.signed, IntKind.bits]
  omega

set_option maxHeartbeats 2000000 in
theorem plus_any {a b : Int} (ha : In64 a) (hb : In64 b) (w : World) : Calls Tryd.prog 49 #[.int .i64 a, .int .i64 b] w fun e w' => e = .returned (.int .i64 (clampI (a + b))) ∧ w' = w := by
  unfold In64 at ha hb
  have w1 : 0 < b → IntKind.i64.wrap (9223372036854775807 - b) = 9223372036854775807 - b := fun h => wrap64 (by unfold In64; omega)
  have w2 : b < 0 → IntKind.i64.wrap (-9223372036854775808 - b) = -9223372036854775808 - b := fun h => wrap64 (by unfold In64; omega)
  by_cases h1 : 0 < b
  · have w1 := w1 h1
    have hb0 : ¬ b < 0 := by omega
    clear w2
    by_cases h2 : 9223372036854775807 - b < a
    · have HC : Hid (clampI (a + b) = 9223372036854775807) := by show _ = _; unfold clampI; rw [if_pos (by omega)]
      go_enter Tryd.func49, Tryd.ntmps49
      go_wp2_with fail
      go_ret
      exact ⟨by rw [HC.out]; rfl, rfl⟩
    · have w3 : IntKind.i64.wrap (a + b) = a + b := wrap64 (by unfold In64; omega)
      have HC : Hid (clampI (a + b) = a + b) := by show _ = _; unfold clampI; rw [if_neg (by omega), if_neg (by omega)]
      go_enter Tryd.func49, Tryd.ntmps49
      go_wp2_with fail
      go_ret
      exact ⟨by rw [HC.out]; rfl, rfl⟩
  · clear w1
    by_cases h0 : b < 0
    · have w2 := w2 h0
      by_cases h2 : a < -9223372036854775808 - b
      · have HC : Hid (clampI (a + b) = -9223372036854775808) := by show _ = _; unfold clampI; rw [if_neg (by omega), if_pos (by omega)]
        go_enter Tryd.func49, Tryd.ntmps49
        go_wp2_with fail
        go_ret
        exact ⟨by rw [HC.out]; rfl, rfl⟩
      · have w3 : IntKind.i64.wrap (a + b) = a + b := wrap64 (by unfold In64; omega)
        have HC : Hid (clampI (a + b) = a + b) := by show _ = _; unfold clampI; rw [if_neg (by omega), if_neg (by omega)]
        go_enter Tryd.func49, Tryd.ntmps49
        go_wp2_with fail
        go_ret
        exact ⟨by rw [HC.out]; rfl, rfl⟩
    · have w3 : IntKind.i64.wrap (a + b) = a + b := wrap64 (by unfold In64; omega)
      have HC : Hid (clampI (a + b) = a + b) := by show _ = _; unfold clampI; rw [if_neg (by omega), if_neg (by omega)]
      clear w2
      go_enter Tryd.func49, Tryd.ntmps49
      go_wp2_with fail
      go_ret
      exact ⟨by rw [HC.out]; rfl, rfl⟩

set_option maxHeartbeats 2000000 in
theorem minus_any {a b : Int} (ha : In64 a) (hb : In64 b) (w : World) : Calls Tryd.prog 50 #[.int .i64 a, .int .i64 b] w fun e w' => e = .returned (.int .i64 (clampI (a - b))) ∧ w' = w := by
  unfold In64 at ha hb
  have w1 : b < 0 → IntKind.i64.wrap (9223372036854775807 + b) = 9223372036854775807 + b := fun h => wrap64 (by unfold In64; omega)
  have w2 : 0 < b → IntKind.i64.wrap (-9223372036854775808 + b) = -9223372036854775808 + b := fun h => wrap64 (by unfold In64; omega)
  by_cases h1 : b < 0
  · have w1 := w1 h1
    have hb0 : ¬ 0 < b := by omega
    clear w2
    by_cases h2 : 9223372036854775807 + b < a
    · have _h := 0
      have HC : Hid (clampI (a - b) = 9223372036854775807) := by show _ = _; unfold clampI; rw [if_pos (by omega)]
      go_enter Tryd.func50, Tryd.ntmps50
      go_wp2_with fail
      go_ret
      exact ⟨by rw [HC.out]; rfl, rfl⟩
    · have _h := 0
      have w3 : IntKind.i64.wrap (a - b) = a - b := wrap64 (by unfold In64; omega)
      have HC : Hid (clampI (a - b) = a - b) := by show _ = _; unfold clampI; rw [if_neg (by omega), if_neg (by omega)]
      go_enter Tryd.func50, Tryd.ntmps50
      go_wp2_with fail
      go_ret
      exact ⟨by rw [HC.out]; rfl, rfl⟩
  · clear w1
    by_cases h0 : 0 < b
    · have w2 := w2 h0
      by_cases h2 : a < -9223372036854775808 + b
      · have _h := 0
        have HC : Hid (clampI (a - b) = -9223372036854775808) := by show _ = _; unfold clampI; rw [if_neg (by omega), if_pos (by omega)]
        go_enter Tryd.func50, Tryd.ntmps50
        go_wp2_with fail
        go_ret
        exact ⟨by rw [HC.out]; rfl, rfl⟩
      · have _h := 0
        have w3 : IntKind.i64.wrap (a - b) = a - b := wrap64 (by unfold In64; omega)
        have HC : Hid (clampI (a - b) = a - b) := by show _ = _; unfold clampI; rw [if_neg (by omega), if_neg (by omega)]
        go_enter Tryd.func50, Tryd.ntmps50
        go_wp2_with fail
        go_ret
        exact ⟨by rw [HC.out]; rfl, rfl⟩
    · clear w2
      have w3 : IntKind.i64.wrap (a - b) = a - b := wrap64 (by unfold In64; omega)
      have HC : Hid (clampI (a - b) = a - b) := by show _ = _; unfold clampI; rw [if_neg (by omega), if_neg (by omega)]
      go_enter Tryd.func50, Tryd.ntmps50
      go_wp2_with fail
      go_ret
      exact ⟨by rw [HC.out]; rfl, rfl⟩

set_option maxHeartbeats 1000000 in
theorem truth_any (b : Bool) (w : World) : Calls Tryd.prog 48 #[.bool b] w fun e w' => e = .returned (.int .i64 (truthI b)) ∧ w' = w := by
  cases b
  all_goals
    go_enter Tryd.func48, Tryd.ntmps48
    go_wp2_with fail
    go_ret
    exact ⟨rfl, rfl⟩
set_option maxHeartbeats 1000000 in
theorem known_any {n : Int} (hn : In64 n) (w : World) : Calls Tryd.prog 47 #[.int .i64 n] w fun e w' => e = .returned (.int .i64 (knownI n)) ∧ w' = w := by
  unfold In64 at hn
  by_cases h0 : n < 0
  · have HC : Hid (knownI n = 0) := by show _ = _; unfold knownI; rw [if_pos (.inl h0)]
    go_enter Tryd.func47, Tryd.ntmps47
    go_wp2_with fail
    go_ret
    exact ⟨by rw [HC.out]; rfl, rfl⟩
  · by_cases h4 : 4 < n
    · have HC : Hid (knownI n = 0) := by show _ = _; unfold knownI; rw [if_pos (.inr h4)]
      go_enter Tryd.func47, Tryd.ntmps47
      go_wp2_with fail
      go_ret
      exact ⟨by rw [HC.out]; rfl, rfl⟩
    · have HC : Hid (knownI n = n) := by show _ = _; unfold knownI; rw [if_neg (by omega)]
      go_enter Tryd.func47, Tryd.ntmps47
      go_wp2_with fail
      go_ret
      exact ⟨by rw [HC.out]; rfl, rfl⟩

set_option maxHeartbeats 4000000 in
theorem two_any (s : List UInt8) {a b : Int} (ha : In64 a) (hb : In64 b) (w : World) : Calls Tryd.prog 30 #[S s, .int .i64 a, .int .i64 b] w fun e w' => e = .returned (.int .i64 (twoI s a b)) ∧ w' = w := by
  cases h0 : (s == [43]) with
  | true =>
    have HC : Hid (twoI s a b = clampI (a + b)) := by show _ = _; unfold twoI; rw [if_pos (by simpa using h0)]
    have W1 := plus_any ha hb w
    generalize clampI (a + b) = r at *
    go_enter Tryd.func30, Tryd.ntmps30
    go_wp2_with fail
    refine W1.mono ?_
    rintro e w1 ⟨rfl, rfl⟩
    clear W1
    go_wp2_with fail
    go_ret
    exact ⟨by rw [HC.out]; rfl, rfl⟩
  | false =>
  have n0 := h0
  cases h1 : (s == [45]) with
  | true =>
    have HC : Hid (twoI s a b = clampI (a - b)) := by show _ = _; unfold twoI; rw [if_neg (by simpa using n0), if_pos (by simpa using h1)]
    have W1 := minus_any ha hb w
    generalize clampI (a - b) = r at *
    go_enter Tryd.func30, Tryd.ntmps30
    go_wp2_with fail
    refine W1.mono ?_
    rintro e w1 ⟨rfl, rfl⟩
    clear W1
    go_wp2_with fail
    go_ret
    exact ⟨by rw [HC.out]; rfl, rfl⟩
  | false =>
  have n1 := h1
  cases h2 : (s == [61]) with
  | true =>
    have HC : Hid (twoI s a b = truthI (a == b)) := by show _ = _; unfold twoI; rw [if_neg (by simpa using n0), if_neg (by simpa using n1), if_pos (by simpa using h2)]
    have W1 := fun w => truth_any (a == b) w
    generalize truthI (a == b) = r at *
    go_enter Tryd.func30, Tryd.ntmps30
    go_wp2_with fail
    refine (W1 _).mono ?_
    rintro e w1 ⟨rfl, rfl⟩
    clear W1
    go_wp2_with fail
    go_ret
    exact ⟨by rw [HC.out]; rfl, rfl⟩
  | false =>
  have n2 := h2
  cases h3 : (s == [60]) with
  | true =>
    have HC : Hid (twoI s a b = truthI (decide (a < b))) := by show _ = _; unfold twoI; rw [if_neg (by simpa using n0), if_neg (by simpa using n1), if_neg (by simpa using n2), if_pos (by simpa using h3)]
    have W1 := fun w => truth_any (decide (a < b)) w
    generalize truthI (decide (a < b)) = r at *
    go_enter Tryd.func30, Tryd.ntmps30
    go_wp2_with fail
    refine (W1 _).mono ?_
    rintro e w1 ⟨rfl, rfl⟩
    clear W1
    go_wp2_with fail
    go_ret
    exact ⟨by rw [HC.out]; rfl, rfl⟩
  | false =>
  have n3 := h3
  cases h4 : (s == [60, 61]) with
  | true =>
    have HC : Hid (twoI s a b = truthI (decide (a ≤ b))) := by show _ = _; unfold twoI; rw [if_neg (by simpa using n0), if_neg (by simpa using n1), if_neg (by simpa using n2), if_neg (by simpa using n3), if_pos (by simpa using h4)]
    have W1 := fun w => truth_any (decide (a ≤ b)) w
    generalize truthI (decide (a ≤ b)) = r at *
    go_enter Tryd.func30, Tryd.ntmps30
    go_wp2_with fail
    refine (W1 _).mono ?_
    rintro e w1 ⟨rfl, rfl⟩
    clear W1
    go_wp2_with fail
    go_ret
    exact ⟨by rw [HC.out]; rfl, rfl⟩
  | false =>
  have n4 := h4
  cases h5 : (s == [111, 114]) with
  | true =>
    have HC : Hid (twoI s a b = truthI (a == 1 || b == 1)) := by show _ = _; unfold twoI; rw [if_neg (by simpa using n0), if_neg (by simpa using n1), if_neg (by simpa using n2), if_neg (by simpa using n3), if_neg (by simpa using n4), if_pos (by simpa using h5)]
    cases hx : (a == 1)
    all_goals
      cases hy : (b == 1)
    all_goals
      rw [hx, hy] at HC
      have W1 := fun w b => truth_any b w
      go_enter Tryd.func30, Tryd.ntmps30
      go_wp2_with fail
      refine (W1 _ _).mono ?_
      rintro e w1 ⟨rfl, rfl⟩
      clear W1
      go_wp2_with fail
      go_ret
      exact ⟨by rw [HC.out]; rfl, rfl⟩
  | false =>
  have n5 := h5
  have HC : Hid (twoI s a b = truthI (a == 1 && b == 1)) := by show _ = _; unfold twoI; rw [if_neg (by simpa using n0), if_neg (by simpa using n1), if_neg (by simpa using n2), if_neg (by simpa using n3), if_neg (by simpa using n4), if_neg (by simpa using n5)]
  cases hx : (a == 1)
  all_goals
    cases hy : (b == 1)
  all_goals
    rw [hx, hy] at HC
    have W1 := fun w b => truth_any b w
    go_enter Tryd.func30, Tryd.ntmps30
    go_wp2_with fail
    refine (W1 _ _).mono ?_
    rintro e w1 ⟨rfl, rfl⟩
    clear W1
    go_wp2_with fail
    go_ret
    exact ⟨by rw [HC.out]; rfl, rfl⟩
end Go.Proofs.YtfkdailfcmnjlaaDoor

namespace Go.Proofs.YtfkdailfcmnjlaaDoor
open Go Go.RowKit
set_option maxRecDepth 100000

/-- An instruction: its byte, its number, its place. -/
structure Ins where
  op : Nat
  n : Int
  pl : Nat
def noIns : Ins := ⟨0, 0, 0⟩
/-- How many bytes an instruction has; 0: there is none. -/
def sizeOp (op : Nat) : Nat := if op = 1 then 9 else if 2 ≤ op ∧ op ≤ 6 then 2 else if 7 ≤ op ∧ op ≤ 14 then 1 else if op = 15 ∨ op = 16 then 3 else if op = 17 ∨ op = 18 then 2 else 0
/-- The greatest number of an instruction of two bytes. -/
def boundOp (op cells : Nat) : Int := if op = 2 then 1 else if op = 3 then 4 else if op = 4 then 8 else if op = 5 ∨ op = 6 then (cells : Int) - 1 else 255
def byteAt (b : List UInt8) (i : Nat) : Nat := (b.getD i 0).toNat
/-- The number that so many bytes are, the greatest first. -/
def beVal (b : List UInt8) (i : Nat) : Nat → Nat
  | 0 => 0
  | n + 1 => beVal b i n * 256 + byteAt b (i + n)
/-- Within 64 bits, with sign. -/
def signed64 (n : Nat) : Int := if n < 9223372036854775808 then (n : Int) else (n : Int) - 18446744073709551616
def numAt (b : List UInt8) (op at_ : Nat) : Int := if op = 1 then signed64 (beVal b (at_ + 1) 8) else (beVal b (at_ + 1) (sizeOp op - 1) : Int)
/-- The instruction at a place. -/
def insAt (b : List UInt8) (at_ : Nat) : Ins := ⟨byteAt b at_, numAt b (byteAt b at_) at_, at_⟩
/-- All instructions from a place on. -/
def dec : Nat → List UInt8 → Nat → Option (List Ins)
  | 0, _, _ => none
  | f + 1, b, a => if b.length ≤ a then some [] else if sizeOp (byteAt b a) ≠ 0 ∧ a + sizeOp (byteAt b a) ≤ b.length ∧ (sizeOp (byteAt b a) = 2 → (byteAt b (a + 1) : Int) ≤ boundOp (byteAt b a) (byteAt b 2)) then (dec f b (a + sizeOp (byteAt b a))).map (insAt b a :: ·) else none

/-- What is known at a place: the types on the stack (the uppermost first), those of the cells (0: none). -/
structure Kn where
  st : List Nat
  cl : List Nat
def fieldTy (n : Nat) : Nat := if n ≤ 3 then 1 else if n ≤ 6 then 3 else 2
def takesK (want more : List Nat) (k : Kn) : Option Kn := if k.st.take want.length = want then some ⟨more ++ k.st.drop want.length, k.cl⟩ else none
/-- What is known behind an instruction. -/
def doesK (op n : Nat) (k : Kn) : Option Kn :=
  if op = 1 then some ⟨1 :: k.st, k.cl⟩
  else if op = 2 then some ⟨2 :: k.st, k.cl⟩
  else if op = 3 then some ⟨3 :: k.st, k.cl⟩
  else if op = 4 then some ⟨fieldTy n :: k.st, k.cl⟩
  else if op = 5 then (match k.st with
    | [] => none
    | t :: r => some ⟨r, k.cl.set n t⟩)
  else if op = 6 then (if k.cl.getD n 0 = 0 then none else some ⟨k.cl.getD n 0 :: k.st, k.cl⟩)
  else if op = 7 ∨ op = 8 then takesK [1, 1] [1] k
  else if op = 9 then (match k.st with
    | x :: y :: r => if x = y then some ⟨2 :: r, k.cl⟩ else none
    | _ => none)
  else if op = 10 ∨ op = 11 then takesK [1, 1] [2] k
  else if op = 12 then takesK [2] [2] k
  else if op = 13 ∨ op = 14 then takesK [2, 2] [2] k
  else if op = 15 then takesK [2] [] k
  else some k
/-- Where a jump comes to. -/
def jumpTo (ins : List Ins) (x : Ins) : Option Nat := ins.findIdx? fun y => y.pl == x.pl + 3 + x.n.toNat
/-- Where an instruction leads. -/
def leadsK (ins : List Ins) (i : Nat) (x : Ins) : List (Option Nat) :=
  if x.op = 15 then [if i + 1 < ins.length then some (i + 1) else none, jumpTo ins x]
  else if x.op = 16 then [jumpTo ins x]
  else if x.op = 17 ∨ x.op = 18 then []
  else [if i + 1 < ins.length then some (i + 1) else none]
def meetC (a b : List Nat) : List Nat := List.zipWith (fun x y => if x = y then x else 0) a b
def bringK (come : List (Option Kn)) (k : Kn) : List (Option Nat) → Option (List (Option Kn))
  | [] => some come
  | none :: _ => none
  | some j :: r => match come.getD j none with
    | none => bringK (come.set j (some k)) k r
    | some a => if a.st = k.st then bringK (come.set j (some ⟨a.st, meetC a.cl k.cl⟩)) k r else none
def flowK (ins : List Ins) (depth : Nat) : List Ins → Nat → List (Option Kn) → Bool
  | [], _, _ => true
  | x :: r, i, come => match come.getD i none with
    | none => flowK ins depth r (i + 1) come
    | some k => match doesK x.op x.n.toNat k with
      | none => false
      | some k' => if depth < k'.st.length then false else (match bringK come k' (leadsK ins i x) with
        | none => false
        | some come' => flowK ins depth r (i + 1) come')
def come0 (cells n : Nat) : List (Option Kn) := some ⟨[], List.replicate cells 0⟩ :: List.replicate (n - 1) none
/-- The code that bytes are, if they may be one. -/
def loadOf (b : List UInt8) : Option (List Ins) :=
  if b.length < 4 ∨ 4000 < b.length ∨ byteAt b 0 ≠ 71 ∨ 24 < byteAt b 1 then none else
  match dec (b.length + 1) b 3 with
  | none => none
  | some ins => if flowK ins (byteAt b 1) ins 0 (come0 (byteAt b 2) ins.length) then some ins else none

/-- What an instruction makes of two. -/
def twoOp (op : Nat) (a b : Int) : Int :=
  if op = 7 then clampI (a + b) else if op = 8 then clampI (a - b) else if op = 9 then truthI (a == b) else if op = 10 then truthI (decide (a < b))
  else if op = 11 then truthI (decide (a ≤ b)) else if op = 13 then truthI (a == 1 && b == 1) else truthI (a == 1 || b == 1)
/-- A step of the machine: the stack (the uppermost first), the cells; does it jump? -/
def stepK (fl : List Int) (x : Ins) (st cl : List Int) : Option (List Int × List Int × Bool) :=
  if x.op = 1 ∨ x.op = 2 ∨ x.op = 3 then some (x.n :: st, cl, false)
  else if x.op = 4 then some (fl.getD x.n.toNat 0 :: st, cl, false)
  else if x.op = 5 then (match st with
    | [] => none
    | v :: r => some (r, cl.set x.n.toNat v, false))
  else if x.op = 6 then some (cl.getD x.n.toNat 0 :: st, cl, false)
  else if x.op = 12 then (match st with
    | [] => none
    | v :: r => some ((1 - v) :: r, cl, false))
  else if x.op = 15 then (match st with
    | [] => none
    | v :: r => some (r, cl, v == 0))
  else if x.op = 16 then some (st, cl, true)
  else (match st with
    | b :: a :: r => some (twoOp x.op a b :: r, cl, false)
    | _ => none)
/-- What the machine ends with, from an instruction on. -/
def runK (ins : List Ins) (fl : List Int) : Nat → Nat → List Int → List Int → Nat → Option (Bool × Nat × Nat)
  | 0, _, _, _, _ => none
  | f + 1, i, st, cl, n =>
    if i < ins.length then
      if (ins.getD i noIns).op = 17 ∨ (ins.getD i noIns).op = 18 then some (decide ((ins.getD i noIns).op = 17), (ins.getD i noIns).n.toNat, n + 1)
      else match stepK fl (ins.getD i noIns) st cl with
        | none => none
        | some (st', cl', false) => runK ins fl f (i + 1) st' cl' (n + 1)
        | some (st', cl', true) => match jumpTo ins (ins.getD i noIns) with
          | none => none
          | some j => runK ins fl f j st' cl' (n + 1)
    else none
end Go.Proofs.YtfkdailfcmnjlaaDoor

namespace Go.Proofs.YtfkdailfcmnjlaaDoor
open Go Go.RowKit
set_option maxRecDepth 100000

theorem byte_lt (b : List UInt8) (i : Nat) : byteAt b i < 256 := UInt8.toNat_lt _
theorem beVal_lt (b : List UInt8) (i n : Nat) : beVal b i n < 256 ^ n := by
  induction n with
  | zero => simp [beVal]
  | succ n ih => rw [beVal, Nat.pow_succ]; have := byte_lt b (i + n); omega
theorem signed_in {n : Nat} (h : n < 18446744073709551616) : In64 (signed64 n) := by
  unfold signed64 In64; split <;> omega
theorem size_le (op : Nat) : sizeOp op ≤ 9 := by unfold sizeOp; (repeat' split) <;> omega
theorem size_op {op : Nat} (h : sizeOp op ≠ 0) : 1 ≤ op ∧ op ≤ 18 := by
  unfold sizeOp at h
  by_cases h1 : op = 1
  · omega
  rw [if_neg h1] at h
  by_cases h2 : 2 ≤ op ∧ op ≤ 6
  · omega
  rw [if_neg h2] at h
  by_cases h3 : 7 ≤ op ∧ op ≤ 14
  · omega
  rw [if_neg h3] at h
  by_cases h4 : op = 15 ∨ op = 16
  · omega
  rw [if_neg h4] at h
  by_cases h5 : op = 17 ∨ op = 18
  · omega
  rw [if_neg h5] at h; exact absurd rfl h
/-- An instruction of bytes. -/
structure InsOK (b : List UInt8) (x : Ins) : Prop where
  here : x = insAt b x.pl
  size : sizeOp x.op ≠ 0
  fits : x.pl + sizeOp x.op ≤ b.length
  bound : sizeOp x.op = 2 → (byteAt b (x.pl + 1) : Int) ≤ boundOp x.op (byteAt b 2)
/-- The instructions stand one behind the other. -/
def Behind (a e : Nat) : List Ins → Prop
  | [] => a = e
  | x :: r => x.pl = a ∧ Behind (a + sizeOp x.op) e r
theorem dec_ok {b : List UInt8} (f : Nat) : ∀ {a : Nat} {ins : List Ins}, dec f b a = some ins → a ≤ b.length → (∀ x ∈ ins, InsOK b x) ∧ Behind a b.length ins := by
  induction f with
  | zero => intro a ins h; simp [dec] at h
  | succ f ih =>
    intro a ins h ha
    rw [dec] at h
    by_cases h1 : b.length ≤ a
    · rw [if_pos h1] at h; simp at h; subst h; exact ⟨by simp, by unfold Behind; omega⟩
    rw [if_neg h1] at h
    by_cases h2 : sizeOp (byteAt b a) ≠ 0 ∧ a + sizeOp (byteAt b a) ≤ b.length ∧ (sizeOp (byteAt b a) = 2 → (byteAt b (a + 1) : Int) ≤ boundOp (byteAt b a) (byteAt b 2))
    · rw [if_pos h2] at h
      cases hd : dec f b (a + sizeOp (byteAt b a)) with
      | none => rw [hd] at h; simp at h
      | some r =>
        rw [hd] at h; simp at h; subst h
        obtain ⟨i1, i2⟩ := ih hd h2.2.1
        refine ⟨fun x hx => ?_, rfl, i2⟩
        rcases List.mem_cons.1 hx with rfl | hx
        · exact ⟨rfl, h2.1, h2.2.1, h2.2.2⟩
        · exact i1 x hx
    · rw [if_neg h2] at h; simp at h
theorem behind_le {e : Nat} : ∀ {ins : List Ins} {a : Nat}, (∀ x ∈ ins, sizeOp x.op ≠ 0) → Behind a e ins → a + ins.length ≤ e ∧ ∀ i, i < ins.length → a ≤ (ins.getD i noIns).pl ∧ (ins.getD i noIns).pl < e
  | [], a, _, h => ⟨by unfold Behind at h; simp; omega, fun i hi => by simp at hi⟩
  | x :: r, a, hs, h => by
    obtain ⟨h1, h2⟩ := h
    have hx := hs x (by simp)
    obtain ⟨i1, i2⟩ := behind_le (fun y hy => hs y (by simp [hy])) h2
    refine ⟨by simp; omega, fun i hi => ?_⟩
    cases i with
    | zero => simp only [List.getD_cons_zero]; omega
    | succ i => rw [List.getD_cons_succ]; have := i2 i (by simpa using hi); omega
theorem behind_inc {e : Nat} : ∀ {ins : List Ins} {a : Nat}, (∀ x ∈ ins, sizeOp x.op ≠ 0) → Behind a e ins → ∀ i j, i < j → j < ins.length → (ins.getD i noIns).pl + sizeOp (ins.getD i noIns).op ≤ (ins.getD j noIns).pl
  | [], a, _, h => fun i j _ hj => by simp at hj
  | x :: r, a, hs, h => fun i j hij hj => by
    obtain ⟨h1, h2⟩ := h
    obtain ⟨j, rfl⟩ : ∃ k, j = k + 1 := ⟨j - 1, by omega⟩
    rw [List.getD_cons_succ]
    have hr : ∀ y ∈ r, sizeOp y.op ≠ 0 := fun y hy => hs y (by simp [hy])
    cases i with
    | zero => simp only [List.getD_cons_zero]; have := (behind_le hr h2).2 j (by simpa using hj); omega
    | succ i => rw [List.getD_cons_succ]; exact behind_inc hr h2 i j (by omega) (by simpa using hj)
/-- The instructions of bytes. -/
structure CodeOK (b : List UInt8) (ins : List Ins) : Prop where
  each : ∀ x ∈ ins, InsOK b x
  order : Behind 3 b.length ins
theorem getD_ins {ins : List Ins} {i : Nat} (h : i < ins.length) : ins.getD i noIns ∈ ins := by rw [List.getD_eq_getElem?_getD, List.getElem?_eq_getElem h]; exact List.getElem_mem h
theorem jump_fwd {b : List UInt8} {ins : List Ins} (h : CodeOK b ins) {i j : Nat} (hi : i < ins.length) (hj : jumpTo ins (ins.getD i noIns) = some j) : i < j ∧ j < ins.length ∧ (ins.getD j noIns).pl = (ins.getD i noIns).pl + 3 + (ins.getD i noIns).n.toNat := by
  unfold jumpTo at hj
  rw [List.findIdx?_eq_some_iff_getElem] at hj
  obtain ⟨h1, h2, _⟩ := hj
  have e : ins.getD j noIns = ins[j] := by rw [List.getD_eq_getElem?_getD, List.getElem?_eq_getElem h1]; rfl
  have h3 : (ins.getD j noIns).pl = (ins.getD i noIns).pl + 3 + (ins.getD i noIns).n.toNat := by rw [e]; simpa using h2
  refine ⟨?_, h1, h3⟩
  by_cases hij : i < j
  · exact hij
  · exfalso
    by_cases hje : j = i
    · subst hje; omega
    · have := behind_inc (fun x hx => (h.each x hx).size) h.order j i (by omega) hi
      omega

/-- Less is known of the cells. -/
def LeC (a b : List Nat) : Prop := ∀ c, a.getD c 0 ≠ 0 → a.getD c 0 = b.getD c 0
theorem LeC.refl (a : List Nat) : LeC a a := fun _ _ => rfl
theorem LeC.trans {a b c : List Nat} (h1 : LeC a b) (h2 : LeC b c) : LeC a c := fun i h => by
  have e := h1 i h
  rw [e] at h ⊢; exact h2 i h
theorem meet_at (a b : List Nat) (c : Nat) : (meetC a b).getD c 0 = if c < a.length ∧ c < b.length then (if a.getD c 0 = b.getD c 0 then a.getD c 0 else 0) else 0 := by
  unfold meetC
  by_cases h : c < a.length ∧ c < b.length
  · rw [if_pos h]
    simp [List.getD_eq_getElem?_getD, List.getElem?_zipWith, List.getElem?_eq_getElem h.1, List.getElem?_eq_getElem h.2]
  · rw [if_neg h, List.getD_eq_getElem?_getD, List.getElem?_eq_none (by simp; omega)]; rfl
theorem meet_left (a b : List Nat) : LeC (meetC a b) a := fun c h => by
  rw [meet_at] at h ⊢
  split at h
  · rename_i hc
    rw [if_pos hc]
    split at h
    · rename_i he; rw [if_pos he]
    · exact absurd rfl h
  · exact absurd rfl h
theorem meet_right (a b : List Nat) : LeC (meetC a b) b := fun c h => by
  rw [meet_at] at h ⊢
  split at h
  · rename_i hc
    rw [if_pos hc]
    split at h
    · rename_i he; rw [if_pos he]; exact he
    · exact absurd rfl h
  · exact absurd rfl h
/-- A later state of knowledge at a place. -/
def Later (a b : Option Kn) : Prop := ∀ k, a = some k → ∃ k', b = some k' ∧ k'.st = k.st ∧ LeC k'.cl k.cl
theorem Later.refl (a : Option Kn) : Later a a := fun k h => ⟨k, h, rfl, LeC.refl _⟩
theorem Later.trans {a b c : Option Kn} (h1 : Later a b) (h2 : Later b c) : Later a c := fun k h => by
  obtain ⟨k1, e1, s1, l1⟩ := h1 k h
  obtain ⟨k2, e2, s2, l2⟩ := h2 k1 e1
  exact ⟨k2, e2, s2.trans s1, l2.trans l1⟩
theorem getD_set_ne {α : Type} {l : List α} {i j : Nat} {v d : α} (h : i ≠ j) : (l.set i v).getD j d = l.getD j d := by
  simp [List.getD_eq_getElem?_getD, List.getElem?_set_ne h]
theorem getD_set_eq {α : Type} {l : List α} {i : Nat} {v d : α} (h : i < l.length) : (l.set i v).getD i d = v := by
  simp [List.getD_eq_getElem?_getD, h]
theorem bring_ok {k : Kn} : ∀ {ts : List (Option Nat)} {come come' : List (Option Kn)}, bringK come k ts = some come' → (∀ j, some j ∈ ts → j < come.length) →
    come'.length = come.length ∧ (∀ t ∈ ts, ∃ j, t = some j) ∧ (∀ j, some j ∈ ts → Later (some k) (come'.getD j none)) ∧ (∀ j, some j ∉ ts → come'.getD j none = come.getD j none) ∧ (∀ j, Later (come.getD j none) (come'.getD j none))
  | [], come, come', h, _ => by
    simp [bringK] at h; subst h
    exact ⟨rfl, by simp, by simp, fun _ _ => rfl, fun _ => Later.refl _⟩
  | none :: r, come, come', h, _ => by simp [bringK] at h
  | some j :: r, come, come', h, hlt => by
    have hj := hlt j (by simp)
    rw [bringK] at h
    have step : ∀ (n : Kn), Later (come.getD j none) (some n) → Later (some k) (some n) → bringK (come.set j (some n)) k r = some come' →
        come'.length = come.length ∧ (∀ t ∈ some j :: r, ∃ j, t = some j) ∧ (∀ i, some i ∈ some j :: r → Later (some k) (come'.getD i none)) ∧ (∀ i, some i ∉ some j :: r → come'.getD i none = come.getD i none) ∧ (∀ i, Later (come.getD i none) (come'.getD i none)) := by
      intro n h1 h2 h3
      obtain ⟨a1, a2, a3, a4, a5⟩ := bring_ok h3 (fun i hi => by simpa using hlt i (by simp [hi]))
      refine ⟨by simpa using a1, ?_, ?_, ?_, ?_⟩
      · intro t ht
        rcases List.mem_cons.1 ht with rfl | ht
        · exact ⟨j, rfl⟩
        · exact a2 t ht
      · intro i hi
        by_cases hir : some i ∈ r
        · exact a3 i hir
        · have e : i = j := by
            rcases List.mem_cons.1 hi with h | h
            · simpa using h
            · exact absurd h hir
          subst e
          rw [a4 i hir, getD_set_eq hj]; exact h2
      · intro i hi
        have h4 : some i ∉ r := fun h => hi (by simp [h])
        have h5 : j ≠ i := fun h => hi (by simp [h])
        rw [a4 i h4, getD_set_ne h5]
      · intro i
        refine Later.trans ?_ (a5 i)
        by_cases e : j = i
        · subst e; rw [getD_set_eq hj]; exact h1
        · rw [getD_set_ne e]; exact Later.refl _
    cases hc : come.getD j none with
    | none =>
      rw [hc] at h
      exact step k (by rw [hc]; intro k h; simp at h) (Later.refl _) h
    | some a =>
      rw [hc] at h
      simp only [] at h
      by_cases he : a.st = k.st
      · rw [if_pos he] at h
        refine step ⟨a.st, meetC a.cl k.cl⟩ ?_ ?_ h
        · rw [hc]; intro q hq; simp at hq; subst hq; exact ⟨_, rfl, rfl, meet_left _ _⟩
        · intro q hq; simp at hq; subst hq; exact ⟨_, rfl, he, meet_right _ _⟩
      · rw [if_neg he] at h; simp at h

/-- What is known at all places holds on each way. -/
def Good (ins : List Ins) (depth lo : Nat) (C : Nat → Option Kn) : Prop :=
  ∀ i, lo ≤ i → i < ins.length → ∀ k, C i = some k → ∃ k', doesK (ins.getD i noIns).op (ins.getD i noIns).n.toNat k = some k' ∧ k'.st.length ≤ depth ∧
    ∀ t ∈ leadsK ins i (ins.getD i noIns), ∃ j, t = some j ∧ i < j ∧ j < ins.length ∧ Later (some k') (C j)
theorem leads_fwd {b : List UInt8} {ins : List Ins} (h : CodeOK b ins) {i j : Nat} (hi : i < ins.length) (hj : some j ∈ leadsK ins i (ins.getD i noIns)) : i < j ∧ j < ins.length := by
  have nx : some j = (if i + 1 < ins.length then some (i + 1) else none) → i < j ∧ j < ins.length := fun e => by
    split at e
    · simp at e; omega
    · simp at e
  have jp : some j = jumpTo ins (ins.getD i noIns) → i < j ∧ j < ins.length := fun e => by
    have := jump_fwd h hi e.symm; omega
  unfold leadsK at hj
  split at hj
  · simp only [List.mem_cons, List.not_mem_nil, or_false] at hj
    rcases hj with hj | hj
    · exact nx hj
    · exact jp hj
  split at hj
  · simp only [List.mem_cons, List.not_mem_nil, or_false] at hj; exact jp hj
  split at hj
  · simp at hj
  · simp only [List.mem_cons, List.not_mem_nil, or_false] at hj; exact nx hj
theorem flow_good {b : List UInt8} {ins : List Ins} (h : CodeOK b ins) (depth : Nat) : ∀ (m i : Nat) (come : List (Option Kn)), ins.length - i = m → come.length = ins.length → flowK ins depth (ins.drop i) i come = true →
    ∃ C : Nat → Option Kn, (∀ j, j ≤ i → C j = come.getD j none) ∧ (∀ j, Later (come.getD j none) (C j)) ∧ Good ins depth i C := by
  intro m
  induction m with
  | zero =>
    intro i come hm hl _
    exact ⟨fun j => come.getD j none, fun _ _ => rfl, fun _ => Later.refl _, fun j h1 h2 => by omega⟩
  | succ m ih =>
    intro i come hm hl hf
    have hi : i < ins.length := by omega
    have hd : ins.drop i = ins.getD i noIns :: ins.drop (i + 1) := by rw [List.drop_eq_getElem_cons hi, List.getD_eq_getElem?_getD, List.getElem?_eq_getElem hi]; rfl
    rw [hd, flowK] at hf
    cases hc : come.getD i none with
    | none =>
      rw [hc] at hf
      obtain ⟨C, c1, c2, c3⟩ := ih (i + 1) come (by omega) hl hf
      refine ⟨C, fun j hj => c1 j (by omega), c2, fun j h1 h2 k hk => ?_⟩
      by_cases e : j = i
      · subst e; rw [c1 j (by omega), hc] at hk; simp at hk
      · exact c3 j (by omega) h2 k hk
    | some k =>
      rw [hc] at hf
      simp only [] at hf
      cases hk : doesK (ins.getD i noIns).op (ins.getD i noIns).n.toNat k with
      | none => rw [hk] at hf; simp at hf
      | some k' =>
        rw [hk] at hf
        simp only [] at hf
        by_cases hdp : depth < k'.st.length
        · rw [if_pos hdp] at hf; simp at hf
        rw [if_neg hdp] at hf
        cases hb : bringK come k' (leadsK ins i (ins.getD i noIns)) with
        | none => rw [hb] at hf; simp at hf
        | some come' =>
          rw [hb] at hf
          simp only [] at hf
          obtain ⟨a1, a2, a3, a4, a5⟩ := bring_ok hb (fun j hj => by rw [hl]; exact (leads_fwd h hi hj).2)
          obtain ⟨C, c1, c2, c3⟩ := ih (i + 1) come' (by omega) (by rw [a1]; exact hl) hf
          have keep : ∀ j, j ≤ i → come'.getD j none = come.getD j none := fun j hj => a4 j fun hm => by have := (leads_fwd h hi hm).1; omega
          refine ⟨C, fun j hj => (c1 j (by omega)).trans (keep j hj), fun j => (a5 j).trans (c2 j), fun j h1 h2 q hq => ?_⟩
          by_cases e : j = i
          · subst e
            rw [c1 j (by omega), keep j (by omega), hc] at hq
            simp at hq; subst hq
            refine ⟨k', hk, by omega, fun t ht => ?_⟩
            obtain ⟨j2, rfl⟩ := a2 t ht
            obtain ⟨f1, f2⟩ := leads_fwd h hi ht
            exact ⟨j2, rfl, f1, f2, (a3 j2 ht).trans (c2 j2)⟩
          · exact c3 j (by omega) h2 q hq
end Go.Proofs.YtfkdailfcmnjlaaDoor
