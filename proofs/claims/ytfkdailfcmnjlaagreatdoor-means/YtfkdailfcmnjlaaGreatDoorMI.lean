/-
  The document's Mean, by plain functions; codes and trees of conditions, as plain functions.
-/
import Derived.Test.YtfkdailfcmnjlaaGreatDoorMH
import Derived.Deep.RegionHeld3
set_option linter.unusedVariables false
set_option linter.unusedSimpArgs false
namespace Go.Proofs.YtfkdailfcmnjlaaGreatDoor
open Go Go.RowKit
set_option maxRecDepth 100000
attribute [local go_sem ↓] Go.wp_at_zero Go.wp_at_succ

/-- Within 64 bits. -/
def In64 (a : Int) : Prop := -9223372036854775808 ≤ a ∧ a ≤ 9223372036854775807
/-- A number brought within 64 bits. -/
def clampI (a : Int) : Int := if 9223372036854775807 < a then 9223372036854775807 else if a < -9223372036854775808 then -9223372036854775808 else a
theorem clamp_in (a : Int) : In64 (clampI a) := by unfold clampI In64; split; omega; split <;> omega
def truthI (b : Bool) : Int := if b then 1 else 0
def knownI (n : Int) : Int := if n < 0 ∨ 4 < n then 0 else n
/-- What a sign makes of two. -/
def twoI (s : List UInt8) (a b : Int) : Int :=
  if s = [43] then clampI (a + b) else if s = [45] then clampI (a - b) else if s = [61] then truthI (a == b) else if s = [60] then truthI (decide (a < b)) else if s = [60, 61] then truthI (decide (a ≤ b))
  else if s = [111, 114] then truthI (a == 1 || b == 1) else truthI (a == 1 && b == 1)
theorem wrap64 {x : Int} (h : In64 x) : IntKind.i64.wrap x = x := by
  unfold In64 at h
  simp [IntKind.wrap, IntKind.signed, IntKind.bits]
  omega

set_option maxHeartbeats 2000000 in
theorem plus_any {a b : Int} (ha : In64 a) (hb : In64 b) (w : World) : Calls Tryz.prog 97 #[.int .i64 a, .int .i64 b] w fun e w' => e = .returned (.int .i64 (clampI (a + b))) ∧ w' = w := by
  unfold In64 at ha hb
  have w1 : 0 < b → IntKind.i64.wrap (9223372036854775807 - b) = 9223372036854775807 - b := fun h => wrap64 (by unfold In64; omega)
  have w2 : b < 0 → IntKind.i64.wrap (-9223372036854775808 - b) = -9223372036854775808 - b := fun h => wrap64 (by unfold In64; omega)
  by_cases h1 : 0 < b
  · have w1 := w1 h1
    have hb0 : ¬ b < 0 := by omega
    clear w2
    by_cases h2 : 9223372036854775807 - b < a
    · have HC : Hid (clampI (a + b) = 9223372036854775807) := by show _ = _; unfold clampI; rw [if_pos (by omega)]
      go_enter Tryz.func97, Tryz.ntmps97
      go_wp2_with fail
      go_ret
      exact ⟨by rw [HC.out]; rfl, rfl⟩
    · have w3 : IntKind.i64.wrap (a + b) = a + b := wrap64 (by unfold In64; omega)
      have HC : Hid (clampI (a + b) = a + b) := by show _ = _; unfold clampI; rw [if_neg (by omega), if_neg (by omega)]
      go_enter Tryz.func97, Tryz.ntmps97
      go_wp2_with fail
      go_ret
      exact ⟨by rw [HC.out]; rfl, rfl⟩
  · clear w1
    by_cases h0 : b < 0
    · have w2 := w2 h0
      by_cases h2 : a < -9223372036854775808 - b
      · have HC : Hid (clampI (a + b) = -9223372036854775808) := by show _ = _; unfold clampI; rw [if_neg (by omega), if_pos (by omega)]
        go_enter Tryz.func97, Tryz.ntmps97
        go_wp2_with fail
        go_ret
        exact ⟨by rw [HC.out]; rfl, rfl⟩
      · have w3 : IntKind.i64.wrap (a + b) = a + b := wrap64 (by unfold In64; omega)
        have HC : Hid (clampI (a + b) = a + b) := by show _ = _; unfold clampI; rw [if_neg (by omega), if_neg (by omega)]
        go_enter Tryz.func97, Tryz.ntmps97
        go_wp2_with fail
        go_ret
        exact ⟨by rw [HC.out]; rfl, rfl⟩
    · have w3 : IntKind.i64.wrap (a + b) = a + b := wrap64 (by unfold In64; omega)
      have HC : Hid (clampI (a + b) = a + b) := by show _ = _; unfold clampI; rw [if_neg (by omega), if_neg (by omega)]
      clear w2
      go_enter Tryz.func97, Tryz.ntmps97
      go_wp2_with fail
      go_ret
      exact ⟨by rw [HC.out]; rfl, rfl⟩

set_option maxHeartbeats 2000000 in
theorem minus_any {a b : Int} (ha : In64 a) (hb : In64 b) (w : World) : Calls Tryz.prog 98 #[.int .i64 a, .int .i64 b] w fun e w' => e = .returned (.int .i64 (clampI (a - b))) ∧ w' = w := by
  unfold In64 at ha hb
  have w1 : b < 0 → IntKind.i64.wrap (9223372036854775807 + b) = 9223372036854775807 + b := fun h => wrap64 (by unfold In64; omega)
  have w2 : 0 < b → IntKind.i64.wrap (-9223372036854775808 + b) = -9223372036854775808 + b := fun h => wrap64 (by unfold In64; omega)
  by_cases h1 : b < 0
  · have w1 := w1 h1
    have hb0 : ¬ 0 < b := by omega
    clear w2
    by_cases h2 : 9223372036854775807 + b < a
    · have _h := 0
      have HC : Hid (clampI (a - b) = 9223372036854775807) := by show _ = _; unfold clampI; rw [if_pos (by omega)]
      go_enter Tryz.func98, Tryz.ntmps98
      go_wp2_with fail
      go_ret
      exact ⟨by rw [HC.out]; rfl, rfl⟩
    · have _h := 0
      have w3 : IntKind.i64.wrap (a - b) = a - b := wrap64 (by unfold In64; omega)
      have HC : Hid (clampI (a - b) = a - b) := by show _ = _; unfold clampI; rw [if_neg (by omega), if_neg (by omega)]
      go_enter Tryz.func98, Tryz.ntmps98
      go_wp2_with fail
      go_ret
      exact ⟨by rw [HC.out]; rfl, rfl⟩
  · clear w1
    by_cases h0 : 0 < b
    · have w2 := w2 h0
      by_cases h2 : a < -9223372036854775808 + b
      · have _h := 0
        have HC : Hid (clampI (a - b) = -9223372036854775808) := by show _ = _; unfold clampI; rw [if_neg (by omega), if_pos (by omega)]
        go_enter Tryz.func98, Tryz.ntmps98
        go_wp2_with fail
        go_ret
        exact ⟨by rw [HC.out]; rfl, rfl⟩
      · have _h := 0
        have w3 : IntKind.i64.wrap (a - b) = a - b := wrap64 (by unfold In64; omega)
        have HC : Hid (clampI (a - b) = a - b) := by show _ = _; unfold clampI; rw [if_neg (by omega), if_neg (by omega)]
        go_enter Tryz.func98, Tryz.ntmps98
        go_wp2_with fail
        go_ret
        exact ⟨by rw [HC.out]; rfl, rfl⟩
    · clear w2
      have w3 : IntKind.i64.wrap (a - b) = a - b := wrap64 (by unfold In64; omega)
      have HC : Hid (clampI (a - b) = a - b) := by show _ = _; unfold clampI; rw [if_neg (by omega), if_neg (by omega)]
      go_enter Tryz.func98, Tryz.ntmps98
      go_wp2_with fail
      go_ret
      exact ⟨by rw [HC.out]; rfl, rfl⟩

set_option maxHeartbeats 1000000 in
theorem truth_any (b : Bool) (w : World) : Calls Tryz.prog 86 #[.bool b] w fun e w' => e = .returned (.int .i64 (truthI b)) ∧ w' = w := by
  cases b
  all_goals
    go_enter Tryz.func86, Tryz.ntmps86
    go_wp2_with fail
    go_ret
    exact ⟨rfl, rfl⟩
set_option maxHeartbeats 1000000 in
theorem known_any {n : Int} (hn : In64 n) (w : World) : Calls Tryz.prog 85 #[.int .i64 n] w fun e w' => e = .returned (.int .i64 (knownI n)) ∧ w' = w := by
  unfold In64 at hn
  by_cases h0 : n < 0
  · have HC : Hid (knownI n = 0) := by show _ = _; unfold knownI; rw [if_pos (.inl h0)]
    go_enter Tryz.func85, Tryz.ntmps85
    go_wp2_with fail
    go_ret
    exact ⟨by rw [HC.out]; rfl, rfl⟩
  · by_cases h4 : 4 < n
    · have HC : Hid (knownI n = 0) := by show _ = _; unfold knownI; rw [if_pos (.inr h4)]
      go_enter Tryz.func85, Tryz.ntmps85
      go_wp2_with fail
      go_ret
      exact ⟨by rw [HC.out]; rfl, rfl⟩
    · have HC : Hid (knownI n = n) := by show _ = _; unfold knownI; rw [if_neg (by omega)]
      go_enter Tryz.func85, Tryz.ntmps85
      go_wp2_with fail
      go_ret
      exact ⟨by rw [HC.out]; rfl, rfl⟩

set_option maxHeartbeats 4000000 in
theorem two_any (s : List UInt8) {a b : Int} (ha : In64 a) (hb : In64 b) (w : World) : Calls Tryz.prog 51 #[S s, .int .i64 a, .int .i64 b] w fun e w' => e = .returned (.int .i64 (twoI s a b)) ∧ w' = w := by
  cases h0 : (s == [43]) with
  | true =>
    have HC : Hid (twoI s a b = clampI (a + b)) := by show _ = _; unfold twoI; rw [if_pos (by simpa using h0)]
    have W1 := plus_any ha hb w
    generalize clampI (a + b) = r at *
    go_enter Tryz.func51, Tryz.ntmps51
    go_wp2_with fail
    refine W1.mono ?_
    rintro e w1 ⟨rfl, rfl⟩
    clear W1
    go_wp2_with fail
    go_ret
    exact ⟨by rw [HC.out]; rfl, rfl⟩
  | false =>
  have n0 := h0
  cases h1 : (s == [45]) with
  | true =>
    have HC : Hid (twoI s a b = clampI (a - b)) := by show _ = _; unfold twoI; rw [if_neg (by simpa using n0), if_pos (by simpa using h1)]
    have W1 := minus_any ha hb w
    generalize clampI (a - b) = r at *
    go_enter Tryz.func51, Tryz.ntmps51
    go_wp2_with fail
    refine W1.mono ?_
    rintro e w1 ⟨rfl, rfl⟩
    clear W1
    go_wp2_with fail
    go_ret
    exact ⟨by rw [HC.out]; rfl, rfl⟩
  | false =>
  have n1 := h1
  cases h2 : (s == [61]) with
  | true =>
    have HC : Hid (twoI s a b = truthI (a == b)) := by show _ = _; unfold twoI; rw [if_neg (by simpa using n0), if_neg (by simpa using n1), if_pos (by simpa using h2)]
    have W1 := fun w => truth_any (a == b) w
    generalize truthI (a == b) = r at *
    go_enter Tryz.func51, Tryz.ntmps51
    go_wp2_with fail
    refine (W1 _).mono ?_
    rintro e w1 ⟨rfl, rfl⟩
    clear W1
    go_wp2_with fail
    go_ret
    exact ⟨by rw [HC.out]; rfl, rfl⟩
  | false =>
  have n2 := h2
  cases h3 : (s == [60]) with
  | true =>
    have HC : Hid (twoI s a b = truthI (decide (a < b))) := by show _ = _; unfold twoI; rw [if_neg (by simpa using n0), if_neg (by simpa using n1), if_neg (by simpa using n2), if_pos (by simpa using h3)]
    have W1 := fun w => truth_any (decide (a < b)) w
    generalize truthI (decide (a < b)) = r at *
    go_enter Tryz.func51, Tryz.ntmps51
    go_wp2_with fail
    refine (W1 _).mono ?_
    rintro e w1 ⟨rfl, rfl⟩
    clear W1
    go_wp2_with fail
    go_ret
    exact ⟨by rw [HC.out]; rfl, rfl⟩
  | false =>
  have n3 := h3
  cases h4 : (s == [60, 61]) with
  | true =>
    have HC : Hid (twoI s a b = truthI (decide (a ≤ b))) := by show _ = _; unfold twoI; rw [if_neg (by simpa using n0), if_neg (by simpa using n1), if_neg (by simpa using n2), if_neg (by simpa using n3), if_pos (by simpa using h4)]
    have W1 := fun w => truth_any (decide (a ≤ b)) w
    generalize truthI (decide (a ≤ b)) = r at *
    go_enter Tryz.func51, Tryz.ntmps51
    go_wp2_with fail
    refine (W1 _).mono ?_
    rintro e w1 ⟨rfl, rfl⟩
    clear W1
    go_wp2_with fail
    go_ret
    exact ⟨by rw [HC.out]; rfl, rfl⟩
  | false =>
  have n4 := h4
  cases h5 : (s == [111, 114]) with
  | true =>
    have HC : Hid (twoI s a b = truthI (a == 1 || b == 1)) := by show _ = _; unfold twoI; rw [if_neg (by simpa using n0), if_neg (by simpa using n1), if_neg (by simpa using n2), if_neg (by simpa using n3), if_neg (by simpa using n4), if_pos (by simpa using h5)]
    cases hx : (a == 1)
    all_goals
      cases hy : (b == 1)
    all_goals
      rw [hx, hy] at HC
      have W1 := fun w b => truth_any b w
      go_enter Tryz.func51, Tryz.ntmps51
      go_wp2_with fail
      refine (W1 _ _).mono ?_
      rintro e w1 ⟨rfl, rfl⟩
      clear W1
      go_wp2_with fail
      go_ret
      exact ⟨by rw [HC.out]; rfl, rfl⟩
  | false =>
  have n5 := h5
  have HC : Hid (twoI s a b = truthI (a == 1 && b == 1)) := by show _ = _; unfold twoI; rw [if_neg (by simpa using n0), if_neg (by simpa using n1), if_neg (by simpa using n2), if_neg (by simpa using n3), if_neg (by simpa using n4), if_neg (by simpa using n5)]
  cases hx : (a == 1)
  all_goals
    cases hy : (b == 1)
  all_goals
    rw [hx, hy] at HC
    have W1 := fun w b => truth_any b w
    go_enter Tryz.func51, Tryz.ntmps51
    go_wp2_with fail
    refine (W1 _ _).mono ?_
    rintro e w1 ⟨rfl, rfl⟩
    clear W1
    go_wp2_with fail
    go_ret
    exact ⟨by rw [HC.out]; rfl, rfl⟩
end Go.Proofs.YtfkdailfcmnjlaaGreatDoor

namespace Go.Proofs.YtfkdailfcmnjlaaGreatDoor
open Go Go.RowKit
set_option maxRecDepth 100000

/-- What a word tells that stands alone. -/
def wordI (xs : List Itm) (vals fl : List Int) (t : Tok) : Int :=
  if t.k = 110 then decVal t.text else if t.k = 111 then vals.getD (letIx xs t.text vals.length).toNat 0
  else if 0 ≤ idx kFields t.text then fl.getD (idx kFields t.text).toNat 0 else if 0 ≤ idx kMembers t.text then idx kMembers t.text else truthI (t.text == wTrue)
/-- What a part tells, by what the parts under it tell. -/
def overI (s : List UInt8) (w : Int) : List Int → Int
  | [] => w
  | [a] => 1 - a
  | [a, b] => twoI s a b
  | a :: b :: c :: _ => if a = 1 then b else c
def tellF (xs : List Itm) (vals fl : List Int) (L : List Pt) : Nat → Nat → Int
  | 0, _ => 0
  | f + 1, k => overI (L.getD k noPt).tok.text (wordI xs vals fl (L.getD k noPt).tok) ((L.getD k noPt).subs.map (tellF xs vals fl L f))

/-- A value of a type. -/
def Has (c : UInt8) (v : Int) : Prop := In64 v ∧ (c = 116 → v = 0 ∨ v = 1)
theorem has_truth (c : UInt8) (b : Bool) : Has c (truthI b) := by
  unfold truthI Has In64; cases b <;> simp
def tysF : List UInt8 := [110, 110, 110, 110, 109, 109, 109, 116, 116]
structure FieldsOK (fl : List Int) : Prop where
  len : fl.length = 9
  has : ∀ i, i < 9 → Has (tysF.getD i 0) (fl.getD i 0)
structure ValsOK (its : List UInt8) (vals : List Int) : Prop where
  len : vals.length = its.length
  has : ∀ i, i < its.length → Has (its.getD i 0) (vals.getD i 0)
theorem ValsOK.snoc {its : List UInt8} {vals : List Int} (h : ValsOK its vals) {c : UInt8} {v : Int} (hv : Has c v) : ValsOK (its ++ [c]) (vals ++ [v]) := by
  refine ⟨by simp [h.len], fun i hi => ?_⟩
  have hl := h.len
  rcases Nat.lt_or_ge i its.length with h1 | h1
  · have := h.has i h1
    rw [List.getD_eq_getElem?_getD, List.getD_eq_getElem?_getD] at this ⊢
    rw [List.getElem?_append_left (by omega), List.getElem?_append_left (by omega)]; exact this
  · have e : i = its.length := by simp at hi; omega
    subst e
    rw [List.getD_eq_getElem?_getD, List.getD_eq_getElem?_getD, List.getElem?_append_right (by omega), List.getElem?_append_right (by omega), hl]
    simpa using hv

theorem two_has (s : List UInt8) {a b : Int} (c : UInt8) (h : s = [43] ∨ s = [45] → c ≠ 116) : Has c (twoI s a b) := by
  unfold twoI
  by_cases h0 : s = [43]
  · rw [if_pos h0]; exact ⟨clamp_in _, fun e => absurd e (h (.inl h0))⟩
  rw [if_neg h0]
  by_cases h1 : s = [45]
  · rw [if_pos h1]; exact ⟨clamp_in _, fun e => absurd e (h (.inr h1))⟩
  rw [if_neg h1]
  split
  · exact has_truth _ _
  split
  · exact has_truth _ _
  split
  · exact has_truth _ _
  split
  · exact has_truth _ _
  · exact has_truth _ _
theorem fields_idx (x : List UInt8) (h : 0 ≤ idx kFields x) : ∃ n : Nat, idx kFields x = n ∧ n < 9 := by
  have := idx_lt kFields x
  have e : (kFields.length : Int) = 9 := rfl
  exact ⟨(idx kFields x).toNat, by omega, by omega⟩
theorem members_idx (x : List UInt8) (h : 0 ≤ idx kMembers x) : idx kMembers x < 5 := by
  have := idx_lt kMembers x
  have e : (kMembers.length : Int) = 5 := rfl
  omega
theorem ty_plus (x : List UInt8) (h : x = [43] ∨ x = [45]) (s : List UInt8) : tyT x s ≠ 116 := by
  have e : tyT x s = UInt8.ofNat (if s = [110, 110] then 110 else 0) := by
    rcases h with rfl | rfl <;> rfl
  rw [e]; split <;> decide
theorem ty_not (s : List UInt8) (h : tyT wNot s ≠ 0) : s = [116] := by
  have e : tyT wNot s = UInt8.ofNat (if s = [116] then 116 else 0) := rfl
  rw [e] at h
  by_cases h1 : s = [116]
  · exact h1
  · rw [if_neg h1] at h; exact absurd rfl h
theorem ty_if {a b c : UInt8} (h : tyT wIf [a, b, c] ≠ 0) : a = 116 ∧ b = c ∧ tyT wIf [a, b, c] = b := by
  have e : tyT wIf [a, b, c] = UInt8.ofNat (if a.toNat = 116 ∧ b.toNat = c.toNat then b.toNat else 0) := rfl
  rw [e] at h
  by_cases h1 : a.toNat = 116 ∧ b.toNat = c.toNat
  · refine ⟨UInt8.toNat_inj.1 h1.1, UInt8.toNat_inj.1 h1.2, ?_⟩
    rw [e, if_pos h1, UInt8.ofNat_toNat]
  · rw [if_neg h1] at h; exact absurd rfl h

theorem word_has {xs : List Itm} {its : List UInt8} {vals fl : List Int} (hV : ValsOK its vals) (hF : FieldsOK fl) {t : Tok} (ha : alone t = true) (hn : t.k = 110 → decVal t.text ≤ 9223372036854775807)
    (ho : t.k = 111 → 0 ≤ letIx xs t.text its.length) : Has (UInt8.ofNat (tyCase xs its t [])) (wordI xs vals fl t) := by
  unfold wordI tyCase
  by_cases h1 : t.k = 110
  · rw [if_pos h1, if_pos h1]
    have := hn h1
    exact ⟨by unfold In64; omega, fun e => absurd e (by decide)⟩
  rw [if_neg h1, if_neg h1]
  by_cases h2 : t.k = 111
  · rw [if_pos h2, if_pos h2, hV.len]
    have h3 := ho h2
    have h4 := (letIx_lt xs t.text its.length).1
    rw [UInt8.ofNat_toNat]
    exact hV.has _ (by omega)
  rw [if_neg h2, if_neg h2]
  by_cases h3 : 0 ≤ idx kFields t.text
  · rw [if_pos h3, if_pos h3]
    obtain ⟨n, e, hn9⟩ := fields_idx _ h3
    rw [e, Int.toNat_natCast, UInt8.ofNat_toNat]
    exact hF.has n hn9
  rw [if_neg h3, if_neg h3]
  by_cases h4 : 0 ≤ idx kMembers t.text
  · rw [if_pos h4, if_pos h4]
    have := members_idx _ h4
    exact ⟨by unfold In64; omega, fun e => absurd e (by decide)⟩
  rw [if_neg h4, if_neg h4]
  exact has_truth _ _

/-- A condition of a type tells a value of it. -/
theorem tell_has {xs : List Itm} {its : List UInt8} {vals fl : List Int} {L : List Pt} (hV : ValsOK its vals) (hF : FieldsOK fl) (hN : ∀ k, k < L.length → (L.getD k noPt).tok.k = 110 → decVal (L.getD k noPt).tok.text ≤ 9223372036854775807) (f : Nat) :
    ∀ {lo i : Nat}, TreeF f L lo i → Given xs its.length L lo (i + 1) → tyOf xs its L f i ≠ 0 → Has (tyOf xs its L f i) (tellF xs vals fl L f i) := by
  induction f with
  | zero => intro lo i h; exact h.elim
  | succ f ih =>
    intro lo i h hg hty
    rw [tellF]
    rw [tyOf] at hty ⊢
    by_cases hc : ((L.getD i noPt).subs.map (tyOf xs its L f)).contains 0 = true
    · rw [if_pos hc] at hty; exact absurd rfl hty
    rw [if_neg hc] at hty ⊢
    have hsub : ∀ j ∈ (L.getD i noPt).subs, Has (tyOf xs its L f j) (tellF xs vals fl L f j) := fun j hj => by
      obtain ⟨lo', a, b, c⟩ := forest_bounds _ h.2.2 j hj
      refine ih c (fun q h1 h2 => hg q (by omega) (by omega)) fun e => hc ?_
      rw [List.contains_iff_mem, ← e]; exact List.mem_map_of_mem hj
    rcases h.2.1 with ⟨ha, hs⟩ | ⟨hw, hl⟩ | ⟨hw, hl⟩ | ⟨n, _, hj, hl⟩
    · rw [hs]
      exact word_has hV hF ha (hN i h.1) fun ho => (hg i h.le (by omega) ho).2
    · obtain ⟨e, hk⟩ := isW_text hw
      obtain ⟨a, ea⟩ : ∃ a, (L.getD i noPt).subs = [a] := List.length_eq_one_iff.1 hl
      rw [tyT_eq xs its (by omega) (by omega), e, ea] at hty ⊢
      have h1 := hsub a (by rw [ea]; simp)
      have h2 := ty_not _ hty
      simp only [List.map_cons, List.map_nil, List.cons.injEq, and_true] at h2
      have h3 := h1.2 h2
      simp only [List.map_cons, List.map_nil, overI]
      refine ⟨?_, fun _ => ?_⟩
      · unfold In64; omega
      · omega
    · obtain ⟨e, hk⟩ := isW_text hw
      obtain ⟨a, b, c, ea⟩ : ∃ a b c, (L.getD i noPt).subs = [a, b, c] := len_three hl
      rw [tyT_eq xs its (by omega) (by omega), e, ea] at hty ⊢
      simp only [List.map_cons, List.map_nil] at hty ⊢
      obtain ⟨h1, h2, h3⟩ := ty_if hty
      rw [h3]
      simp only [overI]
      split
      · exact hsub b (by rw [ea]; simp)
      · rw [h2]; exact hsub c (by rw [ea]; simp)
    · obtain ⟨e, hk⟩ := joins_text hj
      obtain ⟨a, b, ea⟩ : ∃ a b, (L.getD i noPt).subs = [a, b] := len_two hl
      rw [tyT_eq xs its (by omega) (by omega), ea]
      simp only [List.map_cons, List.map_nil, overI]
      exact two_has _ _ fun h => ty_plus _ h _
/-- Of 'not' a truth is asked. -/
theorem not_truth {xs : List Itm} {its : List UInt8} {vals fl : List Int} {L : List Pt} (hV : ValsOK its vals) (hF : FieldsOK fl) (hN : ∀ k, k < L.length → (L.getD k noPt).tok.k = 110 → decVal (L.getD k noPt).tok.text ≤ 9223372036854775807) {f lo i a : Nat} (h : TreeF (f + 1) L lo i) (hg : Given xs its.length L lo (i + 1)) (hty : tyOf xs its L (f + 1) i ≠ 0) (ea : (L.getD i noPt).subs = [a]) :
    tellF xs vals fl L f a = 0 ∨ tellF xs vals fl L f a = 1 := by
  rw [tyOf] at hty
  by_cases hc : ((L.getD i noPt).subs.map (tyOf xs its L f)).contains 0 = true
  · rw [if_pos hc] at hty; exact absurd rfl hty
  rw [if_neg hc] at hty
  obtain ⟨lo', h1, h2, h3⟩ := forest_bounds _ h.2.2 a (by rw [ea]; simp)
  have hh := tell_has hV hF hN f h3 (fun q h1 h2 => hg q (by omega) (by omega)) fun e => hc (by rw [List.contains_iff_mem, ← e]; exact List.mem_map_of_mem (by rw [ea]; simp))
  rcases h.2.1 with ⟨_, hs⟩ | ⟨hw, hl⟩ | ⟨_, hl⟩ | ⟨n, _, _, hl⟩
  · rw [ea] at hs; simp at hs
  · obtain ⟨e, hk⟩ := isW_text hw
    rw [tyT_eq xs its (by omega) (by omega), e, ea] at hty
    have h2 := ty_not _ hty
    simp only [List.map_cons, List.map_nil, List.cons.injEq, and_true] at h2
    exact hh.2 h2
  · rw [ea] at hl; simp at hl
  · rw [ea] at hl; simp at hl
end Go.Proofs.YtfkdailfcmnjlaaGreatDoor

namespace Go.Proofs.YtfkdailfcmnjlaaGreatDoor
open Go Go.RowKit
set_option maxRecDepth 100000
attribute [local go_sem ↓] Go.wp_at_zero Go.wp_at_succ

def intCells (l : List Int) : List Value := l.map fun v => Value.int .i64 v
/-- The policy lies in memory, what the items so far told, and the fields. -/
structure TelIn (B gi c g cap gf : Nat) (xs : List Itm) (ps : List PartS) (bv : Value) (vals fl : List Int) (w : World) : Prop where
  items : ItemsIn B (.slice (some ⟨gi, 0, none⟩) xs.length c) xs w
  parts : PartsIn B g cap ps w
  row : w.ownsRow B 2 1 bv vals.length (intCells vals)
  len : vals.length ≤ xs.length
  fields : ∀ i, i < 9 → w.cell? ⟨gf, i, none⟩ = some (.int .i64 (fl.getD i 0))
theorem TelIn.below {B gi c g cap gf : Nat} {xs : List Itm} {ps : List PartS} {bv : Value} {vals fl : List Int} {w w' : World} (h : TelIn B gi c g cap gf xs ps bv vals fl w) (hb : Below w.heap.size w w') : TelIn B gi c g cap gf xs ps bv vals fl w' :=
  ⟨h.items.below hb, h.parts.below hb, ownsRow_below h.row hb, h.len, fun i hi => by rw [hb.cell (p := ⟨gf, i, none⟩) (World.block_lt_of_cell? w _ (h.fields i hi))]; exact h.fields i hi⟩
theorem int_at {base : Nat} {va : Option Addr} {vc : Nat} {vals : List Int} {w : World} (h : w.ownsRow base 2 1 (.slice va vals.length vc) vals.length (intCells vals)) (l : Nat) (hl : l < vals.length) :
    ∃ g, va = some ⟨g, 0, none⟩ ∧ w.cell? ⟨g, l, none⟩ = some (.int .i64 (vals.getD l 0)) := by
  rcases h.2 with ⟨_, h0⟩ | ⟨g, cap, cur, e, _⟩
  · omega
  · cases e
    refine ⟨g, rfl, ?_⟩
    have ha : (⟨g, 0, none⟩ : Addr).add l = ⟨g, l, none⟩ := by unfold Addr.add; split <;> simp_all
    rw [← ha]
    exact h.cells (g := g) rfl l _ (by simp [intCells, hl])

set_option maxHeartbeats 8000000 in
theorem tells_step {B gi c g cap gf : Nat} {xs : List Itm} {ps : List PartS} {bv : Value} {vals fl : List Int} (T : Nat → Int)
    (k : Nat) (w : World) (h : TelIn B gi c g cap gf xs ps bv vals fl w) (hk : k < ps.length) (hT : ∀ j ∈ (ps.getD k noPart).subs, In64 (T j)) (hnot : ∀ a, (ps.getD k noPart).subs = [a] → T a = 0 ∨ T a = 1) (hl3 : (ps.getD k noPart).subs.length ≤ 3) (hsm : ∀ j ∈ (ps.getD k noPart).subs, j ≤ 5000)
    (hnn : (ps.getD k noPart).tok.k = 110 → (ps.getD k noPart).n = decVal (ps.getD k noPart).tok.text) (hown : (ps.getD k noPart).tok.k = 111 → (ps.getD k noPart).subs = [] → 0 ≤ letIx xs (ps.getD k noPart).tok.text vals.length)
    (ih : ∀ j ∈ (ps.getD k noPart).subs, ∀ (w1 : World), TelIn B gi c g cap gf xs ps bv vals fl w1 → Calls Tryz.prog 42 #[.agg #[.slice (some ⟨gi, 0, none⟩) xs.length c, .slice (some ⟨g, 0, none⟩) ps.length cap], .int .i64 j, bv, .slice (some ⟨gf, 0, none⟩) 9 9] w1 fun e w' => e = .returned (.int .i64 (T j)) ∧ Below w1.heap.size w1 w') :
    Calls Tryz.prog 42 #[.agg #[.slice (some ⟨gi, 0, none⟩) xs.length c, .slice (some ⟨g, 0, none⟩) ps.length cap], .int .i64 k, bv, .slice (some ⟨gf, 0, none⟩) 9 9] w fun e w' => e = .returned (.int .i64 (overI (ps.getD k noPart).tok.text (wordI xs vals fl (ps.getD k noPart).tok) ((ps.getD k noPart).subs.map T))) ∧ Below w.heap.size w w' := by
  obtain ⟨k0, k1, k2, k3, k4⟩ := h.parts.cells k hk
  have hpf := h.parts.few
  have hif := h.items.few
  have hone : (ps.getD k noPart).sv.oneCell' = true := by
    have hm : ps.getD k noPart ∈ ps := by rw [List.getD_eq_getElem?_getD, List.getElem?_eq_getElem hk]; exact List.getElem_mem hk
    exact (h.parts.subs _ hm).one
  have b1 : (0 : Int) ≤ (k : Int) := by omega
  have b2 : (k : Int) < (ps.length : Int) := by omega
  have lg := World.block_lt_of_cell? w _ k0
  simp only at lg
  have hsub := h.parts.sub k hk
  have IH : Hid _ := ih
  have HN : Hid _ := hnn
  have HOW : Hid _ := hown
  have HSM : Hid _ := hsm
  have HNOT : Hid _ := hnot
  have HT : Hid _ := hT
  have HH : Hid (TelIn B gi c g cap gf xs ps bv vals fl w) := h
  have hvl := h.len
  obtain ⟨va, vc, rfl⟩ : ∃ a c, bv = .slice a vals.length c := by
    rcases h.row.2 with ⟨e, hn⟩ | ⟨gg, cc, cur, e, _⟩
    · exact ⟨none, 0, by rw [hn]; exact e⟩
    · exact ⟨_, _, e⟩
  clear ih hnn hsm h hown hnot hT
  generalize ps.getD k noPart = pp at *
  obtain ⟨sa, hsv, hsc⟩ : ∃ sa, pp.sv = .slice sa pp.subs.length pp.subs.length ∧ ∀ j, j < pp.subs.length → ∃ sb, sa = some ⟨sb, 0, none⟩ ∧ w.cell? ⟨sb, j, none⟩ = some (.int .i64 (pp.subs.getD j 0)) := by
    rcases hsub with ⟨e1, e2⟩ | ⟨sb, e2, hcs⟩
    · exact ⟨none, by rw [e1, e2]; rfl, fun j hj => by rw [e1] at hj; simp at hj⟩
    · refine ⟨some ⟨sb, 0, none⟩, e2, fun j hj => ⟨sb, rfl, ?_⟩⟩
      exact hcs j hj
  rw [hsv] at k3 hone
  have HSC : Hid _ := hsc
  clear hsub hsc hsv
  generalize pp.subs = sl at *
  generalize hr : (overI pp.tok.text (wordI xs vals fl pp.tok) (sl.map T)) = r
  have HR : Hid _ := hr
  clear hr
  have hB0 : Below w.heap.size w ((w.alloc (polObj gi xs.length c g ps.length cap)).alloc (.cells #[.int .u8 pp.tok.k, S pp.tok.text, .int .i64 pp.tok.pl, .slice sa sl.length sl.length, .int .i64 pp.n] 169)) := ((Below.refl _ _).alloc (Nat.le_refl _) _).alloc (by simp) _
  have hX0 : ((w.alloc (polObj gi xs.length c g ps.length cap)).alloc (.cells #[.int .u8 pp.tok.k, S pp.tok.text, .int .i64 pp.tok.pl, .slice sa sl.length sl.length, .int .i64 pp.n] 169)).heap[w.heap.size]? = some (polObj gi xs.length c g ps.length cap) := by rw [Below.heap_alloc _ _ _ (by simp)]; exact heap_alloc_new w _
  have hP0 : ((w.alloc (polObj gi xs.length c g ps.length cap)).alloc (.cells #[.int .u8 pp.tok.k, S pp.tok.text, .int .i64 pp.tok.pl, .slice sa sl.length sl.length, .int .i64 pp.n] 169)).heap[w.heap.size + 1]? = some (.cells #[.int .u8 pp.tok.k, S pp.tok.text, .int .i64 pp.tok.pl, .slice sa sl.length sl.length, .int .i64 pp.n] 169 (0, 0)) := by have e := heap_alloc_new (w.alloc (polObj gi xs.length c g ps.length cap)) (.cells #[.int .u8 pp.tok.k, S pp.tok.text, .int .i64 pp.tok.pl, .slice sa sl.length sl.length, .int .i64 pp.n] 169); rw [World.size_alloc] at e; exact e
  have H0 : Hid _ := And.intro hB0 (And.intro hX0 hP0)
  clear hB0 hX0 hP0
  match sl, hl3 with
  | [], _ =>
    clear HSC IH HSM HNOT HT
    have HRW : Hid (r = wordI xs vals fl pp.tok) := by show _ = _; rw [← HR.out]; rfl
    have HOW2 : Hid (pp.tok.k = 111 → 0 ≤ letIx xs pp.tok.text vals.length) := fun h => HOW.out h rfl
    clear HR HOW
    simp only [List.length_nil] at *
    go_enter Tryz.func42, Tryz.ntmps42
    go_wp2_with fail
    obtain ⟨hBw, hXw, hPw⟩ := H0.out
    clear H0 k0 k1 k2 k3 k4
    generalize ((w.alloc (polObj gi xs.length c g ps.length cap)).alloc (.cells #[.int .u8 pp.tok.k, S pp.tok.text, .int .i64 pp.tok.pl, .slice sa 0 0, .int .i64 pp.n] 169)) = wr at *
    have x1 := cell_of_row wr (w.heap.size + 1) 1 _ _ _ hPw
    simp only [List.getElem?_toArray, List.getElem?_cons_zero, List.getElem?_cons_succ] at x1
    have lX := lt_of_get hXw
    have lP := lt_of_get hPw
    have hBs := hBw.size
    go_region_held3 (fun w' => w'.cell? ⟨w.heap.size + 1, 1, none⟩ = some (S pp.tok.text))
      (first | go_keep | (rw [hb1.cell (p := ⟨w.heap.size + 1, 1, none⟩) (by simp <;> omega)]; first | assumption | (simp [*]; done)))
      (first
        | (go_at_call 88; refine (fields_any _).mono ?_; rintro e w1 ⟨x1, rfl, hc1, hb1, hl1, hs1⟩)
        | (go_at_call 87; refine (index_any kFields _ x1 _ (by decide) hc1).mono ?_; rintro e w1 ⟨rfl, rfl⟩))
    rename_i hHeld
    clear hHeld
    have hb2 : Below wr.heap.size wr w1 := (Below.refl _ _).drew.trans hb1
    have hs2 := hb2.size
    have hX1 : w1.heap[w.heap.size]? = some (polObj gi xs.length c g ps.length cap) := by rw [hb2.block _ lX]; exact hXw
    have hP1 := (hb2.block _ lP).trans hPw
    have x1 := cell_of_row w1 (w.heap.size + 1) 1 _ _ _ hP1
    simp only [List.getElem?_toArray, List.getElem?_cons_zero, List.getElem?_cons_succ] at x1
    clear hb1 hc1 hl1 hs1
    go_wp2_with fail
    go_region_held3 (fun w' => w'.cell? ⟨w.heap.size + 1, 1, none⟩ = some (S pp.tok.text))
      (first | go_keep | (rw [hb4.cell (p := ⟨w.heap.size + 1, 1, none⟩) (by simp <;> omega)]; first | assumption | (simp [*]; done)))
      (first
        | (go_at_call 89; refine (members_any _).mono ?_; rintro e w5 ⟨x5, rfl, hc5, hb4, hl5, hs5⟩)
        | (go_at_call 87; refine (index_any kMembers _ x5 _ (by decide) hc5).mono ?_; rintro e w5 ⟨rfl, rfl⟩))
    rename_i hHeld
    clear hHeld
    have hb6 : Below w1.heap.size w1 w5 := (Below.refl _ _).drew.trans hb4
    have hb7 : Below wr.heap.size wr w5 := hb2.trans (hb6.mono hs2)
    have hB5 : Below w.heap.size w w5 := hBw.trans (hb7.mono hBw.size)
    have hX5 : w5.heap[w.heap.size]? = some (polObj gi xs.length c g ps.length cap) := by rw [hb7.block _ lX]; exact hXw
    have hP5 := (hb7.block _ lP).trans hPw
    have q0 := cell_of_row w5 w.heap.size 0 _ _ _ hX5
    have q1 := cell_of_row w5 w.heap.size 1 _ _ _ hX5
    have p0 := cell_of_row w5 (w.heap.size + 1) 0 _ _ _ hP5
    have p1 := cell_of_row w5 (w.heap.size + 1) 1 _ _ _ hP5
    have p4 := cell_of_row w5 (w.heap.size + 1) 4 _ _ _ hP5
    have hs5' := hB5.size
    simp only [List.getElem?_toArray, List.getElem?_cons_zero, List.getElem?_cons_succ] at q0 q1 p0 p1 p4
    have i1 := idx_ge kMembers pp.tok.text
    have i2 := idx_ge kFields pp.tok.text
    have i3 := idx_lt kFields pp.tok.text
    have i4 := idx_lt kMembers pp.tok.text
    have hFC := (HH.out.below hB5).fields
    clear hb4 hc5 hl5 hs5 hb6 hb2 hb7 hX1 hP1 hXw hPw hBw lX lP hs2 hX5 hP5 x1 hBs
    have hTC := HRW.out
    unfold wordI at hTC
    generalize hM : idx kMembers pp.tok.text = m at *
    generalize hF : idx kFields pp.tok.text = n at *
    have HTC : Hid _ := hTC
    have HFC : Hid _ := hFC
    clear hTC hM hF hFC HRW
    by_cases hk1 : pp.tok.k = 110
    · have hk1' : ((pp.tok.k : Int) == 110) = true := by simp; omega
      have hres : Hid (r = pp.n) := by show _ = _; rw [HTC.out, if_pos hk1, HN.out hk1]
      clear HTC hk1
      go_wp2_with fail
      go_ret
      exact ⟨by rw [hres.out]; rfl, hB5⟩
    have hk1' : ((pp.tok.k : Int) == 110) = false := by simp; omega
    by_cases hk2 : pp.tok.k = 111
    · have hk2' : ((pp.tok.k : Int) == 111) = true := by simp; omega
      have hge := HOW2.out hk2
      have hres : Hid (r = vals.getD (letIx xs pp.tok.text vals.length).toNat 0) := by show _ = _; rw [HTC.out, if_neg hk1, if_pos hk2]
      have hll := letIx_lt xs pp.tok.text vals.length
      have hpol := HH.out.below hB5
      have WL := let_any hpol.items (some ⟨g, 0, none⟩) ps.length cap pp.tok.text vals.length hvl
      have HPL : Hid _ := hpol
      clear HTC hk1 hk2 hpol
      go_wp2_with fail
      refine WL.mono ?_
      rintro e w6 ⟨rfl, hb8⟩
      clear WL
      have hpol6 := HPL.out.below hb8
      have hB6 : Below w.heap.size w w6 := hB5.trans (hb8.mono hB5.size)
      obtain ⟨gb, rfl, hcb⟩ := int_at hpol6.row (letIx xs pp.tok.text vals.length).toNat (by omega)
      obtain ⟨l, hl⟩ : ∃ l : Nat, letIx xs pp.tok.text vals.length = l := ⟨_, (Int.toNat_of_nonneg hge).symm⟩
      rw [hl] at hcb hres hge hll ⊢
      simp only [Int.toNat_natCast] at hcb hres
      have c1 : (l : Int) < (vals.length : Int) := by omega
      generalize vals.getD l 0 = vl at *
      clear hl q0 q1 p0 p1 p4 hpol6 hb8 HPL
      go_wp2_with fail
      go_ret
      exact ⟨by rw [hres.out]; rfl, hB6⟩
    have hk2' : ((pp.tok.k : Int) == 111) = false := by simp; omega
    by_cases hn : 0 ≤ n
    · have hres : Hid (r = fl.getD n.toNat 0) := by show _ = _; rw [HTC.out, if_neg hk1, if_neg hk2, if_pos hn]
      obtain ⟨l, rfl⟩ : ∃ l : Nat, n = l := ⟨n.toNat, (Int.toNat_of_nonneg hn).symm⟩
      have hl9 : l < 9 := by have : (kFields.length : Int) = 9 := rfl; omega
      have hcf := HFC.out l hl9
      simp only [Int.toNat_natCast] at hres
      generalize fl.getD l 0 = vl at *
      clear HTC hk1 hk2
      have c1 : (l : Int) < 9 := by omega
      go_wp2_with fail
      go_ret
      exact ⟨by rw [hres.out]; rfl, hB5⟩
    by_cases hm : 0 ≤ m
    · have hres : Hid (r = m) := by show _ = _; rw [HTC.out, if_neg hk1, if_neg hk2, if_neg hn, if_pos hm]
      have hn' : n < 0 := by omega
      have hm5 : m < 5 := by have : (kMembers.length : Int) = 5 := rfl; omega
      clear HTC hk1 hk2 hn
      go_wp2_with fail
      go_ret
      exact ⟨by rw [hres.out]; rfl, hB5⟩
    have hn' : n < 0 := by omega
    have hm' : m < 0 := by omega
    have hres : Hid (r = truthI (pp.tok.text == wTrue)) := by show _ = _; rw [HTC.out, if_neg hk1, if_neg hk2, if_neg hn, if_neg hm]
    have WT := fun W => truth_any (pp.tok.text == [116, 114, 117, 101]) W
    have e9 : (pp.tok.text == wTrue) = (pp.tok.text == [116, 114, 117, 101]) := rfl
    rw [e9] at hres
    clear HTC hk1 hk2 hn hm e9
    generalize truthI (pp.tok.text == [116, 114, 117, 101]) = tr at *
    go_wp2_with fail
    refine (WT _).mono ?_
    rintro e w6 ⟨rfl, rfl⟩
    clear WT
    go_wp2_with fail
    go_ret
    exact ⟨by rw [hres.out]; rfl, hB5⟩
  | [y], _ =>
    obtain ⟨sb, rfl, hc0⟩ := HSC.out 0 (by simp)
    have HR2 : Hid (r = 1 - T y) := by show _ = _; rw [← HR.out]; rfl
    have hy := HNOT.out y rfl
    have Wy := IH.out y (by simp)
    have hy5 := HSM.out y (by simp)
    simp only [List.getD_cons_zero] at hc0
    clear HSC HR IH HSM HNOT HN HOW HT
    simp only [List.length_cons, List.length_nil, Nat.zero_add] at *
    go_enter Tryz.func42, Tryz.ntmps42
    go_wp2_with fail
    obtain ⟨hBwr, hXwr, hPwr⟩ := H0.out
    clear H0 k0 k1 k2 k3 k4
    generalize ((w.alloc (polObj gi xs.length c g ps.length cap)).alloc (.cells #[.int .u8 pp.tok.k, S pp.tok.text, .int .i64 pp.tok.pl, .slice (some ⟨sb, 0, none⟩) 1 1, .int .i64 pp.n] 169)) = wr at *
    have p0 := cell_of_row wr w.heap.size 0 _ _ _ hXwr
    have p1 := cell_of_row wr w.heap.size 1 _ _ _ hXwr
    have x1 := cell_of_row wr (w.heap.size + 1) 1 _ _ _ hPwr
    have x3 := cell_of_row wr (w.heap.size + 1) 3 _ _ _ hPwr
    simp only [List.getElem?_toArray, List.getElem?_cons_zero, List.getElem?_cons_succ] at p0 p1 x1 x3
    have hs0wr : wr.cell? ⟨sb, 0, none⟩ = some (.int .i64 y) := by rw [hBwr.cell (p := ⟨sb, 0, none⟩) (World.block_lt_of_cell? w _ hc0)]; exact hc0
    have KF : Hid (∀ w', Below wr.heap.size wr.drew w' → (w'.cell? ⟨w.heap.size, 0, none⟩ = some (.slice (some ⟨gi, 0, none⟩) xs.length c) ∧ w'.cell? ⟨w.heap.size, 1, none⟩ = some (.slice (some ⟨g, 0, none⟩) ps.length cap) ∧ w'.cell? ⟨w.heap.size + 1, 3, none⟩ = some (.slice (some ⟨sb, 0, none⟩) 1 1) ∧ w'.cell? ⟨sb, 0, none⟩ = some (.int .i64 y))) := fun w' h => by
      rw [h.cell (p := ⟨w.heap.size, 0, none⟩) (lt_of_get hXwr), h.cell (p := ⟨w.heap.size, 1, none⟩) (lt_of_get hXwr), h.cell (p := ⟨w.heap.size + 1, 3, none⟩) (lt_of_get hPwr), h.cell (p := ⟨sb, 0, none⟩) (World.block_lt_of_cell? wr _ hs0wr)]
      exact ⟨p0, p1, x3, hs0wr⟩
    have WC := Wy wr.drew (HH.out.below hBwr.drew)
    go_region_held3 (fun w' => w'.cell? ⟨w.heap.size, 0, none⟩ = some (.slice (some ⟨gi, 0, none⟩) xs.length c) ∧ w'.cell? ⟨w.heap.size, 1, none⟩ = some (.slice (some ⟨g, 0, none⟩) ps.length cap) ∧ w'.cell? ⟨w.heap.size + 1, 3, none⟩ = some (.slice (some ⟨sb, 0, none⟩) 1 1) ∧ w'.cell? ⟨sb, 0, none⟩ = some (.int .i64 y)) (first | exact KF.out _ hbc | go_keep) ((go_at_call 42; refine WC.mono ?_; rintro e w1 ⟨rfl, hbc⟩))
    rename_i hHeld
    clear hHeld
    have hbd : Below wr.heap.size wr w1 := (Below.refl _ _).drew.trans hbc
    have hBw1 : Below w.heap.size w w1 := hBwr.trans (hbd.mono hBwr.size)
    have hXw1 := (hbd.block _ (lt_of_get hXwr)).trans hXwr
    have hPw1 := (hbd.block _ (lt_of_get hPwr)).trans hPwr
    clear p0 p1 x1 x3 hs0wr KF WC hbc hbd hXwr hPwr hBwr
    generalize T y = ty at *
    have w3 : IntKind.i64.wrap (1 - ty) = 1 - ty := wrap64 (by unfold In64; omega)
    have HB : Hid _ := hBw1
    clear hy hXw1 hPw1 hBw1
    go_wp2_with fail
    go_ret
    exact ⟨by rw [HR2.out]; rfl, HB.out⟩
  | [y, z], _ =>
    obtain ⟨sb, rfl, hc0⟩ := HSC.out 0 (by simp)
    obtain ⟨sb', e', hc1⟩ := HSC.out 1 (by simp)
    obtain rfl : sb = sb' := by simpa using e'
    have HR2 : Hid (r = twoI pp.tok.text (T y) (T z)) := by show _ = _; rw [← HR.out]; rfl
    have hy := HT.out y (by simp)
    have hz := HT.out z (by simp)
    have Wy := IH.out y (by simp)
    have Wz := IH.out z (by simp)
    have hy5 := HSM.out y (by simp)
    have hz5 := HSM.out z (by simp)
    simp only [List.getD_cons_zero, List.getD_cons_succ] at hc0 hc1
    clear HSC HR IH HSM HNOT HN HOW HT e'
    simp only [List.length_cons, List.length_nil, Nat.zero_add, Nat.reduceAdd] at *
    go_enter Tryz.func42, Tryz.ntmps42
    go_wp2_with fail
    obtain ⟨hBwr, hXwr, hPwr⟩ := H0.out
    clear H0 k0 k1 k2 k3 k4
    generalize ((w.alloc (polObj gi xs.length c g ps.length cap)).alloc (.cells #[.int .u8 pp.tok.k, S pp.tok.text, .int .i64 pp.tok.pl, .slice (some ⟨sb, 0, none⟩) 2 2, .int .i64 pp.n] 169)) = wr at *
    have p0 := cell_of_row wr w.heap.size 0 _ _ _ hXwr
    have p1 := cell_of_row wr w.heap.size 1 _ _ _ hXwr
    have x1 := cell_of_row wr (w.heap.size + 1) 1 _ _ _ hPwr
    have x3 := cell_of_row wr (w.heap.size + 1) 3 _ _ _ hPwr
    simp only [List.getElem?_toArray, List.getElem?_cons_zero, List.getElem?_cons_succ] at p0 p1 x1 x3
    have hs0wr : wr.cell? ⟨sb, 0, none⟩ = some (.int .i64 y) := by rw [hBwr.cell (p := ⟨sb, 0, none⟩) (World.block_lt_of_cell? w _ hc0)]; exact hc0
    have KF : Hid (∀ w', Below wr.heap.size wr.drew w' → (w'.cell? ⟨w.heap.size, 0, none⟩ = some (.slice (some ⟨gi, 0, none⟩) xs.length c) ∧ w'.cell? ⟨w.heap.size, 1, none⟩ = some (.slice (some ⟨g, 0, none⟩) ps.length cap) ∧ w'.cell? ⟨w.heap.size + 1, 3, none⟩ = some (.slice (some ⟨sb, 0, none⟩) 2 2) ∧ w'.cell? ⟨sb, 0, none⟩ = some (.int .i64 y))) := fun w' h => by
      rw [h.cell (p := ⟨w.heap.size, 0, none⟩) (lt_of_get hXwr), h.cell (p := ⟨w.heap.size, 1, none⟩) (lt_of_get hXwr), h.cell (p := ⟨w.heap.size + 1, 3, none⟩) (lt_of_get hPwr), h.cell (p := ⟨sb, 0, none⟩) (World.block_lt_of_cell? wr _ hs0wr)]
      exact ⟨p0, p1, x3, hs0wr⟩
    have WC := Wy wr.drew (HH.out.below hBwr.drew)
    go_region_held3 (fun w' => w'.cell? ⟨w.heap.size, 0, none⟩ = some (.slice (some ⟨gi, 0, none⟩) xs.length c) ∧ w'.cell? ⟨w.heap.size, 1, none⟩ = some (.slice (some ⟨g, 0, none⟩) ps.length cap) ∧ w'.cell? ⟨w.heap.size + 1, 3, none⟩ = some (.slice (some ⟨sb, 0, none⟩) 2 2) ∧ w'.cell? ⟨sb, 0, none⟩ = some (.int .i64 y)) (first | exact KF.out _ hbc | go_keep) ((go_at_call 42; refine WC.mono ?_; rintro e w1 ⟨rfl, hbc⟩))
    rename_i hHeld
    clear hHeld
    have hbd : Below wr.heap.size wr w1 := (Below.refl _ _).drew.trans hbc
    have hBw1 : Below w.heap.size w w1 := hBwr.trans (hbd.mono hBwr.size)
    have hXw1 := (hbd.block _ (lt_of_get hXwr)).trans hXwr
    have hPw1 := (hbd.block _ (lt_of_get hPwr)).trans hPwr
    clear p0 p1 x1 x3 hs0wr KF WC hbc hbd hXwr hPwr hBwr
    go_wp2_with fail
    have p0 := cell_of_row w1 w.heap.size 0 _ _ _ hXw1
    have p1 := cell_of_row w1 w.heap.size 1 _ _ _ hXw1
    have x1 := cell_of_row w1 (w.heap.size + 1) 1 _ _ _ hPw1
    have x3 := cell_of_row w1 (w.heap.size + 1) 3 _ _ _ hPw1
    simp only [List.getElem?_toArray, List.getElem?_cons_zero, List.getElem?_cons_succ] at p0 p1 x1 x3
    have hs1w1 : w1.cell? ⟨sb, 1, none⟩ = some (.int .i64 z) := by rw [hBw1.cell (p := ⟨sb, 1, none⟩) (World.block_lt_of_cell? w _ hc1)]; exact hc1
    have KF : Hid (∀ w', Below w1.heap.size w1.drew w' → (w'.cell? ⟨w.heap.size, 0, none⟩ = some (.slice (some ⟨gi, 0, none⟩) xs.length c) ∧ w'.cell? ⟨w.heap.size, 1, none⟩ = some (.slice (some ⟨g, 0, none⟩) ps.length cap) ∧ w'.cell? ⟨w.heap.size + 1, 3, none⟩ = some (.slice (some ⟨sb, 0, none⟩) 2 2) ∧ w'.cell? ⟨sb, 1, none⟩ = some (.int .i64 z))) := fun w' h => by
      rw [h.cell (p := ⟨w.heap.size, 0, none⟩) (lt_of_get hXw1), h.cell (p := ⟨w.heap.size, 1, none⟩) (lt_of_get hXw1), h.cell (p := ⟨w.heap.size + 1, 3, none⟩) (lt_of_get hPw1), h.cell (p := ⟨sb, 1, none⟩) (World.block_lt_of_cell? w1 _ hs1w1)]
      exact ⟨p0, p1, x3, hs1w1⟩
    have WC := Wz w1.drew (HH.out.below hBw1.drew)
    go_region_held3 (fun w' => w'.cell? ⟨w.heap.size, 0, none⟩ = some (.slice (some ⟨gi, 0, none⟩) xs.length c) ∧ w'.cell? ⟨w.heap.size, 1, none⟩ = some (.slice (some ⟨g, 0, none⟩) ps.length cap) ∧ w'.cell? ⟨w.heap.size + 1, 3, none⟩ = some (.slice (some ⟨sb, 0, none⟩) 2 2) ∧ w'.cell? ⟨sb, 1, none⟩ = some (.int .i64 z)) (first | exact KF.out _ hbc | go_keep) ((go_at_call 42; refine WC.mono ?_; rintro e w2 ⟨rfl, hbc⟩))
    rename_i hHeld
    clear hHeld
    have hbd : Below w1.heap.size w1 w2 := (Below.refl _ _).drew.trans hbc
    have hBw2 : Below w.heap.size w w2 := hBw1.trans (hbd.mono hBw1.size)
    have hXw2 := (hbd.block _ (lt_of_get hXw1)).trans hXw1
    have hPw2 := (hbd.block _ (lt_of_get hPw1)).trans hPw1
    clear p0 p1 x1 x3 hs1w1 KF WC hbc hbd hXw1 hPw1 hBw1
    have WT := fun W => two_any pp.tok.text hy hz W
    generalize T y = ty at *
    generalize T z = tz at *
    have p0 := cell_of_row w2 w.heap.size 0 _ _ _ hXw2
    have p1 := cell_of_row w2 w.heap.size 1 _ _ _ hXw2
    have x1 := cell_of_row w2 (w.heap.size + 1) 1 _ _ _ hPw2
    have x3 := cell_of_row w2 (w.heap.size + 1) 3 _ _ _ hPw2
    simp only [List.getElem?_toArray, List.getElem?_cons_zero, List.getElem?_cons_succ] at p0 p1 x1 x3
    have HB : Hid _ := hBw2
    clear hy hz hXw2 hPw2 hBw2 p0 p1 x3
    generalize twoI pp.tok.text ty tz = tr at *
    go_wp2_with fail
    refine (WT _).mono ?_
    rintro e w3 ⟨rfl, rfl⟩
    clear WT
    go_wp2_with fail
    go_ret
    exact ⟨by rw [HR2.out]; rfl, HB.out⟩
  | [y, z, u], _ =>
    obtain ⟨sb, rfl, hc0⟩ := HSC.out 0 (by simp)
    obtain ⟨sb', e', hc1⟩ := HSC.out 1 (by simp)
    obtain rfl : sb = sb' := by simpa using e'
    obtain ⟨sb'', e'', hc2⟩ := HSC.out 2 (by simp)
    obtain rfl : sb = sb'' := by simpa using e''
    have HR2 : Hid (r = if T y = 1 then T z else T u) := by show _ = _; rw [← HR.out]; rfl
    have Wy := IH.out y (by simp)
    have Wz := IH.out z (by simp)
    have Wu := IH.out u (by simp)
    have hy5 := HSM.out y (by simp)
    have hz5 := HSM.out z (by simp)
    have hu5 := HSM.out u (by simp)
    simp only [List.getD_cons_zero, List.getD_cons_succ] at hc0 hc1 hc2
    clear HSC HR IH HSM HNOT HN HOW HT e' e''
    simp only [List.length_cons, List.length_nil, Nat.zero_add, Nat.reduceAdd] at *
    go_enter Tryz.func42, Tryz.ntmps42
    go_wp2_with fail
    obtain ⟨hBwr, hXwr, hPwr⟩ := H0.out
    clear H0 k0 k1 k2 k3 k4
    generalize ((w.alloc (polObj gi xs.length c g ps.length cap)).alloc (.cells #[.int .u8 pp.tok.k, S pp.tok.text, .int .i64 pp.tok.pl, .slice (some ⟨sb, 0, none⟩) 3 3, .int .i64 pp.n] 169)) = wr at *
    have p0 := cell_of_row wr w.heap.size 0 _ _ _ hXwr
    have p1 := cell_of_row wr w.heap.size 1 _ _ _ hXwr
    have x1 := cell_of_row wr (w.heap.size + 1) 1 _ _ _ hPwr
    have x3 := cell_of_row wr (w.heap.size + 1) 3 _ _ _ hPwr
    simp only [List.getElem?_toArray, List.getElem?_cons_zero, List.getElem?_cons_succ] at p0 p1 x1 x3
    have hs0wr : wr.cell? ⟨sb, 0, none⟩ = some (.int .i64 y) := by rw [hBwr.cell (p := ⟨sb, 0, none⟩) (World.block_lt_of_cell? w _ hc0)]; exact hc0
    have KF : Hid (∀ w', Below wr.heap.size wr.drew w' → (w'.cell? ⟨w.heap.size, 0, none⟩ = some (.slice (some ⟨gi, 0, none⟩) xs.length c) ∧ w'.cell? ⟨w.heap.size, 1, none⟩ = some (.slice (some ⟨g, 0, none⟩) ps.length cap) ∧ w'.cell? ⟨w.heap.size + 1, 3, none⟩ = some (.slice (some ⟨sb, 0, none⟩) 3 3) ∧ w'.cell? ⟨sb, 0, none⟩ = some (.int .i64 y))) := fun w' h => by
      rw [h.cell (p := ⟨w.heap.size, 0, none⟩) (lt_of_get hXwr), h.cell (p := ⟨w.heap.size, 1, none⟩) (lt_of_get hXwr), h.cell (p := ⟨w.heap.size + 1, 3, none⟩) (lt_of_get hPwr), h.cell (p := ⟨sb, 0, none⟩) (World.block_lt_of_cell? wr _ hs0wr)]
      exact ⟨p0, p1, x3, hs0wr⟩
    have WC := Wy wr.drew (HH.out.below hBwr.drew)
    go_region_held3 (fun w' => w'.cell? ⟨w.heap.size, 0, none⟩ = some (.slice (some ⟨gi, 0, none⟩) xs.length c) ∧ w'.cell? ⟨w.heap.size, 1, none⟩ = some (.slice (some ⟨g, 0, none⟩) ps.length cap) ∧ w'.cell? ⟨w.heap.size + 1, 3, none⟩ = some (.slice (some ⟨sb, 0, none⟩) 3 3) ∧ w'.cell? ⟨sb, 0, none⟩ = some (.int .i64 y)) (first | exact KF.out _ hbc | go_keep) ((go_at_call 42; refine WC.mono ?_; rintro e w1 ⟨rfl, hbc⟩))
    rename_i hHeld
    clear hHeld
    have hbd : Below wr.heap.size wr w1 := (Below.refl _ _).drew.trans hbc
    have hBw1 : Below w.heap.size w w1 := hBwr.trans (hbd.mono hBwr.size)
    have hXw1 := (hbd.block _ (lt_of_get hXwr)).trans hXwr
    have hPw1 := (hbd.block _ (lt_of_get hPwr)).trans hPwr
    clear p0 p1 x1 x3 hs0wr KF WC hbc hbd hXwr hPwr hBwr
    by_cases hy1 : T y = 1
    · have HR3 : Hid (r = T z) := by show _ = _; rw [HR2.out, if_pos hy1]
      have hy2 : (T y == 1) = true := by simpa using hy1
      clear HR2 hy1
      generalize T y = ty at *
      go_wp2_with fail
      have p0 := cell_of_row w1 w.heap.size 0 _ _ _ hXw1
      have p1 := cell_of_row w1 w.heap.size 1 _ _ _ hXw1
      have x1 := cell_of_row w1 (w.heap.size + 1) 1 _ _ _ hPw1
      have x3 := cell_of_row w1 (w.heap.size + 1) 3 _ _ _ hPw1
      simp only [List.getElem?_toArray, List.getElem?_cons_zero, List.getElem?_cons_succ] at p0 p1 x1 x3
      have hs1w1 : w1.cell? ⟨sb, 1, none⟩ = some (.int .i64 z) := by rw [hBw1.cell (p := ⟨sb, 1, none⟩) (World.block_lt_of_cell? w _ hc1)]; exact hc1
      have KF : Hid (∀ w', Below w1.heap.size w1.drew w' → (w'.cell? ⟨w.heap.size, 0, none⟩ = some (.slice (some ⟨gi, 0, none⟩) xs.length c) ∧ w'.cell? ⟨w.heap.size, 1, none⟩ = some (.slice (some ⟨g, 0, none⟩) ps.length cap) ∧ w'.cell? ⟨w.heap.size + 1, 3, none⟩ = some (.slice (some ⟨sb, 0, none⟩) 3 3) ∧ w'.cell? ⟨sb, 1, none⟩ = some (.int .i64 z))) := fun w' h => by
        rw [h.cell (p := ⟨w.heap.size, 0, none⟩) (lt_of_get hXw1), h.cell (p := ⟨w.heap.size, 1, none⟩) (lt_of_get hXw1), h.cell (p := ⟨w.heap.size + 1, 3, none⟩) (lt_of_get hPw1), h.cell (p := ⟨sb, 1, none⟩) (World.block_lt_of_cell? w1 _ hs1w1)]
        exact ⟨p0, p1, x3, hs1w1⟩
      have WC := Wz w1.drew (HH.out.below hBw1.drew)
      go_region_held3 (fun w' => w'.cell? ⟨w.heap.size, 0, none⟩ = some (.slice (some ⟨gi, 0, none⟩) xs.length c) ∧ w'.cell? ⟨w.heap.size, 1, none⟩ = some (.slice (some ⟨g, 0, none⟩) ps.length cap) ∧ w'.cell? ⟨w.heap.size + 1, 3, none⟩ = some (.slice (some ⟨sb, 0, none⟩) 3 3) ∧ w'.cell? ⟨sb, 1, none⟩ = some (.int .i64 z)) (first | exact KF.out _ hbc | go_keep) ((go_at_call 42; refine WC.mono ?_; rintro e w2 ⟨rfl, hbc⟩))
      rename_i hHeld
      clear hHeld
      have hbd : Below w1.heap.size w1 w2 := (Below.refl _ _).drew.trans hbc
      have hBw2 : Below w.heap.size w w2 := hBw1.trans (hbd.mono hBw1.size)
      have hXw2 := (hbd.block _ (lt_of_get hXw1)).trans hXw1
      have hPw2 := (hbd.block _ (lt_of_get hPw1)).trans hPw1
      clear p0 p1 x1 x3 hs1w1 KF WC hbc hbd hXw1 hPw1 hBw1
      have HB : Hid _ := hBw2
      clear hXw2 hPw2 hBw2
      go_wp2_with fail
      go_ret
      exact ⟨by rw [HR3.out]; rfl, HB.out⟩
    · have HR3 : Hid (r = T u) := by show _ = _; rw [HR2.out, if_neg hy1]
      have hy2 : (T y == 1) = false := by simpa using hy1
      clear HR2 hy1
      generalize T y = ty at *
      go_wp2_with fail
      have p0 := cell_of_row w1 w.heap.size 0 _ _ _ hXw1
      have p1 := cell_of_row w1 w.heap.size 1 _ _ _ hXw1
      have x1 := cell_of_row w1 (w.heap.size + 1) 1 _ _ _ hPw1
      have x3 := cell_of_row w1 (w.heap.size + 1) 3 _ _ _ hPw1
      simp only [List.getElem?_toArray, List.getElem?_cons_zero, List.getElem?_cons_succ] at p0 p1 x1 x3
      have hs2w1 : w1.cell? ⟨sb, 2, none⟩ = some (.int .i64 u) := by rw [hBw1.cell (p := ⟨sb, 2, none⟩) (World.block_lt_of_cell? w _ hc2)]; exact hc2
      have KF : Hid (∀ w', Below w1.heap.size w1.drew w' → (w'.cell? ⟨w.heap.size, 0, none⟩ = some (.slice (some ⟨gi, 0, none⟩) xs.length c) ∧ w'.cell? ⟨w.heap.size, 1, none⟩ = some (.slice (some ⟨g, 0, none⟩) ps.length cap) ∧ w'.cell? ⟨w.heap.size + 1, 3, none⟩ = some (.slice (some ⟨sb, 0, none⟩) 3 3) ∧ w'.cell? ⟨sb, 2, none⟩ = some (.int .i64 u))) := fun w' h => by
        rw [h.cell (p := ⟨w.heap.size, 0, none⟩) (lt_of_get hXw1), h.cell (p := ⟨w.heap.size, 1, none⟩) (lt_of_get hXw1), h.cell (p := ⟨w.heap.size + 1, 3, none⟩) (lt_of_get hPw1), h.cell (p := ⟨sb, 2, none⟩) (World.block_lt_of_cell? w1 _ hs2w1)]
        exact ⟨p0, p1, x3, hs2w1⟩
      have WC := Wu w1.drew (HH.out.below hBw1.drew)
      go_region_held3 (fun w' => w'.cell? ⟨w.heap.size, 0, none⟩ = some (.slice (some ⟨gi, 0, none⟩) xs.length c) ∧ w'.cell? ⟨w.heap.size, 1, none⟩ = some (.slice (some ⟨g, 0, none⟩) ps.length cap) ∧ w'.cell? ⟨w.heap.size + 1, 3, none⟩ = some (.slice (some ⟨sb, 0, none⟩) 3 3) ∧ w'.cell? ⟨sb, 2, none⟩ = some (.int .i64 u)) (first | exact KF.out _ hbc | go_keep) ((go_at_call 42; refine WC.mono ?_; rintro e w2 ⟨rfl, hbc⟩))
      rename_i hHeld
      clear hHeld
      have hbd : Below w1.heap.size w1 w2 := (Below.refl _ _).drew.trans hbc
      have hBw2 : Below w.heap.size w w2 := hBw1.trans (hbd.mono hBw1.size)
      have hXw2 := (hbd.block _ (lt_of_get hXw1)).trans hXw1
      have hPw2 := (hbd.block _ (lt_of_get hPw1)).trans hPw1
      clear p0 p1 x1 x3 hs2w1 KF WC hbc hbd hXw1 hPw1 hBw1
      have HB : Hid _ := hBw2
      clear hXw2 hPw2 hBw2
      go_wp2_with fail
      go_ret
      exact ⟨by rw [HR3.out]; rfl, HB.out⟩
  | _ :: _ :: _ :: _ :: _, hl3 => simp at hl3
end Go.Proofs.YtfkdailfcmnjlaaGreatDoor

namespace Go.Proofs.YtfkdailfcmnjlaaGreatDoor
open Go Go.RowKit
set_option maxRecDepth 100000

theorem tells_any {B gi c g cap gf : Nat} {xs : List Itm} {ps : List PartS} {bv : Value} {its : List UInt8} {vals fl : List Int} (hV : ValsOK its vals) (hF : FieldsOK fl) (hL : PlainOK (ps.map toPt)) (hn : ∀ p ∈ ps, p.n = numOf p.tok) (f : Nat) : ∀ {lo k : Nat} {w : World}, TreeF f (ps.map toPt) lo k → Given xs its.length (ps.map toPt) lo (k + 1) → tyOf xs its (ps.map toPt) f k ≠ 0 → TelIn B gi c g cap gf xs ps bv vals fl w →
    Calls Tryz.prog 42 #[.agg #[.slice (some ⟨gi, 0, none⟩) xs.length c, .slice (some ⟨g, 0, none⟩) ps.length cap], .int .i64 k, bv, .slice (some ⟨gf, 0, none⟩) 9 9] w fun e w' => e = .returned (.int .i64 (tellF xs vals fl (ps.map toPt) f k)) ∧ Below w.heap.size w w' := by
  induction f with
  | zero => intro lo k w h; exact h.elim
  | succ f ih =>
    intro lo k w hT hg hty hP
    have hlt := hT.lt
    have hltp : k < ps.length := by simpa using hlt
    have hsub := forest_bounds _ hT.2.2
    have hsh := hT.2.1
    have hnot := fun a ea => not_truth (a := a) hV hF hL.num hT hg hty ea
    have hpm : ps.getD k noPart ∈ ps := by rw [List.getD_eq_getElem?_getD, List.getElem?_eq_getElem hltp]; exact List.getElem_mem hltp
    have hnn := hn _ hpm
    have hps : ps.length ≤ 5000 := by simpa using hL.few
    have hgk := hg k hT.le (by omega)
    have hty' : ∀ j ∈ ((ps.map toPt).getD k noPt).subs, tyOf xs its (ps.map toPt) f j ≠ 0 := fun j hj e => by
      rw [tyOf, if_pos] at hty
      · exact absurd rfl hty
      · rw [List.contains_iff_mem, ← e]; exact List.mem_map_of_mem hj
    rw [toPt_getD] at hsub hsh hnot hgk hty'
    rw [tellF, toPt_getD]
    refine tells_step (fun j => tellF xs vals fl (ps.map toPt) f j) k w hP hltp (fun j hj => ?_) (fun a ea => hnot a ea) ?_ (fun j hj => by obtain ⟨lo', h1, h2, h3⟩ := hsub j hj; omega) (fun hk => by rw [hnn]; unfold numOf; rw [if_pos hk]) (fun hk _ => by rw [hV.len]; exact (hgk hk).2) (fun j hj w1 h1 => ?_)
    · obtain ⟨lo', h1, h2, h3⟩ := hsub j hj
      exact (tell_has hV hF hL.num f h3 (fun q a b => hg q (by omega) (by omega)) (hty' j hj)).1
    · rcases hsh with ⟨_, h⟩ | ⟨_, h⟩ | ⟨_, h⟩ | ⟨_, _, _, h⟩
      · have : (ps.getD k noPart).subs = [] := h
        rw [this]; simp
      all_goals (have : (ps.getD k noPart).subs.length = _ := h; omega)
    · obtain ⟨lo', h1', h2, h3⟩ := hsub j hj
      exact ih h3 (fun q a b => hg q (by omega) (by omega)) (hty' j hj) h1
end Go.Proofs.YtfkdailfcmnjlaaGreatDoor

namespace Go.Proofs.YtfkdailfcmnjlaaGreatDoor
open Go Go.RowKit
set_option maxRecDepth 100000
attribute [local go_sem ↓] Go.wp_at_zero Go.wp_at_succ

/-- A list of users with a number each, at a slice. -/
def PairsAt (v : Value) (ls : List (List UInt8 × Int)) (w : World) : Prop :=
  ls.length ≤ maxLen ∧ ∃ a cap, v = .slice a ls.length cap ∧ ∀ i, i < ls.length → ∃ b o, a = some ⟨b, o, none⟩ ∧ w.cell? ⟨b, o + i * 2, none⟩ = some (S (ls.getD i ([], 0)).1) ∧ w.cell? ⟨b, o + i * 2 + 1, none⟩ = some (.int .i64 (ls.getD i ([], 0)).2) ∧ In64 (ls.getD i ([], 0)).2
theorem PairsAt.below {v : Value} {ls : List (List UInt8 × Int)} {w w' : World} (h : PairsAt v ls w) (hb : Below w.heap.size w w') : PairsAt v ls w' := by
  obtain ⟨h0, a, cap, h1, h2⟩ := h
  refine ⟨h0, a, cap, h1, fun i hi => ?_⟩
  obtain ⟨b, o, e, c0, c1, hn⟩ := h2 i hi
  refine ⟨b, o, e, ?_, ?_, hn⟩
  · rw [hb.cell (p := ⟨b, o + i * 2, none⟩) (World.block_lt_of_cell? w _ c0)]; exact c0
  · rw [hb.cell (p := ⟨b, o + i * 2 + 1, none⟩) (World.block_lt_of_cell? w _ c1)]; exact c1
/-- The first entry of a user counts. -/
def firstI (df : Int) (ls : List (List UInt8 × Int)) (u : List UInt8) : Int := match ls with
  | [] => df
  | x :: r => if x.1 == u then x.2 else firstI df r u
theorem first_step (df : Int) (ls : List (List UInt8 × Int)) (u : List UInt8) (i : Nat) (h : i < ls.length) : firstI df (ls.drop i) u = if (ls.getD i ([], 0)).1 == u then (ls.getD i ([], 0)).2 else firstI df (ls.drop (i + 1)) u := by
  rw [List.drop_eq_getElem_cons h, firstI, List.getD_eq_getElem?_getD, List.getElem?_eq_getElem h]; rfl

set_option maxHeartbeats 4000000 in
theorem level_any {lv mv : Value} {df : Int} {op : Bool} {ls : List (List UInt8 × Int)} (u : List UInt8) (w : World) (h : PairsAt lv ls w) :
    Calls Tryz.prog 83 #[.agg #[lv, .int .i64 df, mv, .bool op], S u] w fun e w' => e = .returned (.int .i64 (firstI df ls u)) ∧ Below w.heap.size w w' := by
  obtain ⟨hm, a, cap, rfl, hc⟩ := h
  unfold maxLen at hm
  have hb := (Below.refl w.heap.size w).alloc (Nat.le_refl _) (.cells #[.slice a ls.length cap, .int .i64 df, mv, .bool op] 50)
  have hx : (w.alloc (.cells #[.slice a ls.length cap, .int .i64 df, mv, .bool op] 50)).heap[w.heap.size]? = some (.cells #[.slice a ls.length cap, .int .i64 df, mv, .bool op] 50 (0, 0)) := heap_alloc_new w _
  have H0 : Hid _ := And.intro hb hx
  have HC : Hid _ := hc
  clear hb hx hc
  go_enter Tryz.func83, Tryz.ntmps83
  go_wp2_with fail
  obtain ⟨hbw, hxw⟩ := H0.out
  clear H0
  generalize hwz : w.alloc (.cells #[.slice a ls.length cap, .int .i64 df, mv, .bool op] 50) = wz at *
  clear hwz
  have q0 := cell_of_row wz w.heap.size 0 _ _ _ hxw
  simp only [List.getElem?_toArray, List.getElem?_cons_zero, List.getElem?_cons_succ] at q0
  have HB : Hid _ := hbw
  go_loop [5, 6] (fun n i => ∃ j, j ≤ ls.length ∧ i = .int .i64 ((j : Int) - 1) ∧ ∃ v, n = .int .i64 v ∧ Hid (v = firstI df (ls.drop j) u)) (fun _ i => (intOf i + 1).toNat)
  case atStart => exact ⟨ls.length, Nat.le_refl _, rfl, df, rfl, by show _ = _; rw [List.drop_length]; rfl⟩
  case round =>
    obtain ⟨j, hj, rfl, v, rfl, HV⟩ := hrel
    by_cases h0 : j = 0
    · subst h0
      go_wp2_with fail
      go_ret
      exact ⟨by rw [HV.out]; rfl, HB.out⟩
    · obtain ⟨q, rfl⟩ : ∃ q, j = q + 1 := ⟨j - 1, by omega⟩
      obtain ⟨b, o, rfl, c0, c1, hn⟩ := HC.out q (by omega)
      have HS : Hid _ := first_step df ls u q (by omega)
      have c0' : wz.cell? ⟨b, o + q * 2, none⟩ = some (S (ls.getD q ([], 0)).1) := by rw [hbw.cell (p := ⟨b, o + q * 2, none⟩) (World.block_lt_of_cell? w _ c0)]; exact c0
      have c1' : wz.cell? ⟨b, o + q * 2 + 1, none⟩ = some (.int .i64 (ls.getD q ([], 0)).2) := by rw [hbw.cell (p := ⟨b, o + q * 2 + 1, none⟩) (World.block_lt_of_cell? w _ c1)]; exact c1
      have ei : ((q + 1 : Nat) : Int) - 1 = (q : Int) := by omega
      have b1 : (q : Int) < (ls.length : Int) := by omega
      rw [ei]
      clear c0 c1 h0 ei
      generalize ls.getD q ([], 0) = x at *
      cases hx : (x.1 == u) with
      | true =>
        have HS2 : Hid (firstI df (ls.drop q) u = x.2) := by show _ = _; rw [HS.out, if_pos hx]
        clear HS
        go_wp2_with fail
        go_round
        case rel => exact ⟨q, by omega, by simp, x.2, rfl, HS2.out.symm⟩
        case measure => simp [intOf]
      | false =>
        have HS2 : Hid (firstI df (ls.drop q) u = v) := by show _ = _; rw [HS.out, if_neg (by rw [hx]; simp), HV.out]
        clear HS
        go_wp2_with fail
        go_round
        case rel => exact ⟨q, by omega, by simp, v, rfl, HS2.out.symm⟩
        case measure => simp [intOf]
/-- What a user is to the room. -/
def firstK (ls : List (List UInt8 × Int)) (u : List UInt8) : Int := match ls with
  | [] => 0
  | x :: r => if x.1 == u then knownI x.2 else firstK r u
theorem firstK_step (ls : List (List UInt8 × Int)) (u : List UInt8) (i : Nat) (h : i < ls.length) : firstK (ls.drop i) u = if (ls.getD i ([], 0)).1 == u then knownI (ls.getD i ([], 0)).2 else firstK (ls.drop (i + 1)) u := by
  rw [List.drop_eq_getElem_cons h, firstK, List.getD_eq_getElem?_getD, List.getElem?_eq_getElem h]; rfl

set_option maxHeartbeats 4000000 in
theorem is_any {lv mv : Value} {df : Int} {op : Bool} {ls : List (List UInt8 × Int)} (u : List UInt8) (w : World) (h : PairsAt mv ls w) :
    Calls Tryz.prog 84 #[.agg #[lv, .int .i64 df, mv, .bool op], S u] w fun e w' => e = .returned (.int .i64 (firstK ls u)) ∧ Below w.heap.size w w' := by
  obtain ⟨hm, a, cap, rfl, hc⟩ := h
  unfold maxLen at hm
  have hb := (Below.refl w.heap.size w).alloc (Nat.le_refl _) (.cells #[lv, .int .i64 df, .slice a ls.length cap, .bool op] 50)
  have hx : (w.alloc (.cells #[lv, .int .i64 df, .slice a ls.length cap, .bool op] 50)).heap[w.heap.size]? = some (.cells #[lv, .int .i64 df, .slice a ls.length cap, .bool op] 50 (0, 0)) := heap_alloc_new w _
  have H0 : Hid _ := And.intro hb hx
  have HC : Hid _ := hc
  clear hb hx hc
  go_enter Tryz.func84, Tryz.ntmps84
  go_wp2_with fail
  obtain ⟨hbw, hxw⟩ := H0.out
  clear H0
  generalize hwz : w.alloc (.cells #[lv, .int .i64 df, .slice a ls.length cap, .bool op] 50) = wz at *
  clear hwz
  have q0 := cell_of_row wz w.heap.size 2 _ _ _ hxw
  simp only [List.getElem?_toArray, List.getElem?_cons_zero, List.getElem?_cons_succ] at q0
  have HB : Hid _ := hbw
  go_loop [5, 6] (fun n i => ∃ j, j ≤ ls.length ∧ i = .int .i64 ((j : Int) - 1) ∧ ∃ v, n = .int .i64 v ∧ Hid (v = firstK (ls.drop j) u)) (fun _ i => (intOf i + 1).toNat)
  case atStart => exact ⟨ls.length, Nat.le_refl _, rfl, 0, rfl, by show _ = _; rw [List.drop_length]; rfl⟩
  case round =>
    obtain ⟨j, hj, rfl, v, rfl, HV⟩ := hrel
    by_cases h0 : j = 0
    · subst h0
      go_wp2_with fail
      go_ret
      exact ⟨by rw [HV.out]; rfl, HB.out⟩
    · obtain ⟨q, rfl⟩ : ∃ q, j = q + 1 := ⟨j - 1, by omega⟩
      obtain ⟨b, o, rfl, c0, c1, hn⟩ := HC.out q (by omega)
      have HS : Hid _ := firstK_step ls u q (by omega)
      have c0' : wz.cell? ⟨b, o + q * 2, none⟩ = some (S (ls.getD q ([], 0)).1) := by rw [hbw.cell (p := ⟨b, o + q * 2, none⟩) (World.block_lt_of_cell? w _ c0)]; exact c0
      have c1' : wz.cell? ⟨b, o + q * 2 + 1, none⟩ = some (.int .i64 (ls.getD q ([], 0)).2) := by rw [hbw.cell (p := ⟨b, o + q * 2 + 1, none⟩) (World.block_lt_of_cell? w _ c1)]; exact c1
      have ei : ((q + 1 : Nat) : Int) - 1 = (q : Int) := by omega
      have b1 : (q : Int) < (ls.length : Int) := by omega
      rw [ei]
      clear c0 c1 h0 ei
      generalize ls.getD q ([], 0) = x at *
      cases hx : (x.1 == u) with
      | true =>
        have HS2 : Hid (firstK (ls.drop q) u = knownI x.2) := by show _ = _; rw [HS.out, if_pos hx]
        have WK := fun W => known_any hn W
        generalize knownI x.2 = kx at *
        clear HS
        go_wp2_with fail
        refine (WK _).mono ?_
        rintro e w5 ⟨rfl, rfl⟩
        clear WK
        go_wp2_with fail
        go_round
        case rel => exact ⟨q, by omega, by simp, kx, rfl, HS2.out.symm⟩
        case measure => simp [intOf]
      | false =>
        have HS2 : Hid (firstK (ls.drop q) u = v) := by show _ = _; rw [HS.out, if_neg (by rw [hx]; simp), HV.out]
        clear HS
        go_wp2_with fail
        go_round
        case rel => exact ⟨q, by omega, by simp, v, rfl, HS2.out.symm⟩
        case measure => simp [intOf]
end Go.Proofs.YtfkdailfcmnjlaaGreatDoor

namespace Go.Proofs.YtfkdailfcmnjlaaGreatDoor
open Go Go.RowKit
set_option maxRecDepth 100000
attribute [local go_sem ↓] Go.wp_at_zero Go.wp_at_succ

/-- An event; a state. -/
structure Ev where
  sender : List UInt8
  target : List UInt8
  wants : Int
  need : Int
  when_ : Int
structure Stt where
  levels : List (List UInt8 × Int)
  dflt : Int
  members : List (List UInt8 × Int)
  open_ : Bool
def evV (e : Ev) : Value := .agg #[S e.sender, S e.target, .int .i64 e.wants, .int .i64 e.need, .int .i64 e.when_]
def sttV (lv mv : Value) (s : Stt) : Value := .agg #[lv, .int .i64 s.dflt, mv, .bool s.open_]
/-- All nine fields. -/
def fieldsL (e : Ev) (s : Stt) : List Int := [firstI s.dflt s.levels e.sender, firstI s.dflt s.levels e.target, e.need, e.when_, firstK s.members e.sender, firstK s.members e.target, knownI e.wants, truthI (e.sender == e.target), truthI s.open_]

set_option maxHeartbeats 8000000 in
theorem fields_ref {lv mv : Value} (e : Ev) (s : Stt) (w : World) (h1 : PairsAt lv s.levels w) (h2 : PairsAt mv s.members w) (hw : In64 e.wants) :
    Calls Tryz.prog 41 #[evV e, sttV lv mv s] w fun en w' => (∃ gf, en = .returned (.slice (some ⟨gf, 0, none⟩) 9 9) ∧ ∀ i, i < 9 → w'.cell? ⟨gf, i, none⟩ = some (.int .i64 ((fieldsL e s).getD i 0))) ∧ Below w.heap.size w w' := by
  unfold evV sttV
  obtain ⟨sn, tg, wa, nd, wh⟩ := e
  obtain ⟨ls, df, ms, op⟩ := s
  simp only [] at *
  have hol : lv.oneCell' = true := by obtain ⟨_, a, c, rfl, _⟩ := h1; rfl
  have hom : mv.oneCell' = true := by obtain ⟨_, a, c, rfl, _⟩ := h2; rfl
  have hEo : Obj := .cells #[S sn, S tg, .int .i64 wa, .int .i64 nd, .int .i64 wh] 46
  clear hEo
  have hB0 : Below w.heap.size w ((w.alloc (.cells #[S sn, S tg, .int .i64 wa, .int .i64 nd, .int .i64 wh] 46)).alloc (.cells #[lv, .int .i64 df, mv, .bool op] 50)) := ((Below.refl _ _).alloc (Nat.le_refl _) _).alloc (by simp) _
  have hX0 : ((w.alloc (.cells #[S sn, S tg, .int .i64 wa, .int .i64 nd, .int .i64 wh] 46)).alloc (.cells #[lv, .int .i64 df, mv, .bool op] 50)).heap[w.heap.size]? = some (.cells #[S sn, S tg, .int .i64 wa, .int .i64 nd, .int .i64 wh] 46 (0, 0)) := by rw [Below.heap_alloc _ _ _ (by simp)]; exact heap_alloc_new w _
  have hP0 : ((w.alloc (.cells #[S sn, S tg, .int .i64 wa, .int .i64 nd, .int .i64 wh] 46)).alloc (.cells #[lv, .int .i64 df, mv, .bool op] 50)).heap[w.heap.size + 1]? = some (.cells #[lv, .int .i64 df, mv, .bool op] 50 (0, 0)) := by have e := heap_alloc_new (w.alloc (.cells #[S sn, S tg, .int .i64 wa, .int .i64 nd, .int .i64 wh] 46)) (.cells #[lv, .int .i64 df, mv, .bool op] 50); rw [World.size_alloc] at e; exact e
  have H0 : Hid _ := And.intro hB0 (And.intro hX0 hP0)
  have WL : ∀ (u : List UInt8) (W : World), Below w.heap.size w W → Calls Tryz.prog 83 #[.agg #[lv, .int .i64 df, mv, .bool op], S u] W fun e w' => e = .returned (.int .i64 (firstI df ls u)) ∧ Below W.heap.size W w' := fun u W hb => level_any u W (h1.below hb)
  have WI : ∀ (u : List UInt8) (W : World), Below w.heap.size w W → Calls Tryz.prog 84 #[.agg #[lv, .int .i64 df, mv, .bool op], S u] W fun e w' => e = .returned (.int .i64 (firstK ms u)) ∧ Below W.heap.size W w' := fun u W hb => is_any u W (h2.below hb)
  have WK := fun W => known_any hw W
  have WT := fun b W => truth_any b W
  have KP : Hid (∀ W W', (Below w.heap.size w W ∧ W.cell? ⟨w.heap.size, 0, none⟩ = some (S sn) ∧ W.cell? ⟨w.heap.size, 1, none⟩ = some (S tg) ∧ W.cell? ⟨w.heap.size, 2, none⟩ = some (.int .i64 wa) ∧ W.cell? ⟨w.heap.size, 3, none⟩ = some (.int .i64 nd) ∧ W.cell? ⟨w.heap.size, 4, none⟩ = some (.int .i64 wh) ∧ W.cell? ⟨w.heap.size + 1, 0, none⟩ = some (lv) ∧ W.cell? ⟨w.heap.size + 1, 1, none⟩ = some (.int .i64 df) ∧ W.cell? ⟨w.heap.size + 1, 2, none⟩ = some (mv) ∧ W.cell? ⟨w.heap.size + 1, 3, none⟩ = some (.bool op)) → Below W.heap.size W W' → (Below w.heap.size w W' ∧ W'.cell? ⟨w.heap.size, 0, none⟩ = some (S sn) ∧ W'.cell? ⟨w.heap.size, 1, none⟩ = some (S tg) ∧ W'.cell? ⟨w.heap.size, 2, none⟩ = some (.int .i64 wa) ∧ W'.cell? ⟨w.heap.size, 3, none⟩ = some (.int .i64 nd) ∧ W'.cell? ⟨w.heap.size, 4, none⟩ = some (.int .i64 wh) ∧ W'.cell? ⟨w.heap.size + 1, 0, none⟩ = some (lv) ∧ W'.cell? ⟨w.heap.size + 1, 1, none⟩ = some (.int .i64 df) ∧ W'.cell? ⟨w.heap.size + 1, 2, none⟩ = some (mv) ∧ W'.cell? ⟨w.heap.size + 1, 3, none⟩ = some (.bool op))) := fun W W' hS hb => by
    obtain ⟨hb0, a0, a1, a2, a3, a4, a5, a6, a7, a8⟩ := hS
    refine ⟨hb0.trans (hb.mono hb0.size), ?_, ?_, ?_, ?_, ?_, ?_, ?_, ?_, ?_⟩
    all_goals (rw [hb.cell (World.block_lt_of_cell? W _ (by assumption))]; assumption)
  have KD : Hid (∀ W : World, (Below w.heap.size w W ∧ W.cell? ⟨w.heap.size, 0, none⟩ = some (S sn) ∧ W.cell? ⟨w.heap.size, 1, none⟩ = some (S tg) ∧ W.cell? ⟨w.heap.size, 2, none⟩ = some (.int .i64 wa) ∧ W.cell? ⟨w.heap.size, 3, none⟩ = some (.int .i64 nd) ∧ W.cell? ⟨w.heap.size, 4, none⟩ = some (.int .i64 wh) ∧ W.cell? ⟨w.heap.size + 1, 0, none⟩ = some (lv) ∧ W.cell? ⟨w.heap.size + 1, 1, none⟩ = some (.int .i64 df) ∧ W.cell? ⟨w.heap.size + 1, 2, none⟩ = some (mv) ∧ W.cell? ⟨w.heap.size + 1, 3, none⟩ = some (.bool op)) → (Below w.heap.size w W.drew ∧ W.drew.cell? ⟨w.heap.size, 0, none⟩ = some (S sn) ∧ W.drew.cell? ⟨w.heap.size, 1, none⟩ = some (S tg) ∧ W.drew.cell? ⟨w.heap.size, 2, none⟩ = some (.int .i64 wa) ∧ W.drew.cell? ⟨w.heap.size, 3, none⟩ = some (.int .i64 nd) ∧ W.drew.cell? ⟨w.heap.size, 4, none⟩ = some (.int .i64 wh) ∧ W.drew.cell? ⟨w.heap.size + 1, 0, none⟩ = some (lv) ∧ W.drew.cell? ⟨w.heap.size + 1, 1, none⟩ = some (.int .i64 df) ∧ W.drew.cell? ⟨w.heap.size + 1, 2, none⟩ = some (mv) ∧ W.drew.cell? ⟨w.heap.size + 1, 3, none⟩ = some (.bool op))) := fun W hS => by
    obtain ⟨hb0, a0, a1, a2, a3, a4, a5, a6, a7, a8⟩ := hS
    exact ⟨hb0.drew, a0, a1, a2, a3, a4, a5, a6, a7, a8⟩
  have HF : Hid (fieldsL ⟨sn, tg, wa, nd, wh⟩ ⟨ls, df, ms, op⟩ = [firstI df ls sn, firstI df ls tg, nd, wh, firstK ms sn, firstK ms tg, knownI wa, truthI (sn == tg), truthI op]) := rfl
  clear hB0 hX0 hP0 h1 h2 hw
  go_enter Tryz.func41, Tryz.ntmps41
  go_wp2_with fail
  obtain ⟨hB0, hX0, hP0⟩ := H0.out
  clear H0
  generalize ((w.alloc (.cells #[S sn, S tg, .int .i64 wa, .int .i64 nd, .int .i64 wh] 46)).alloc (.cells #[lv, .int .i64 df, mv, .bool op] 50)) = wz at *
  have hS0 : Below w.heap.size w wz ∧ wz.cell? ⟨w.heap.size, 0, none⟩ = some (S sn) ∧ wz.cell? ⟨w.heap.size, 1, none⟩ = some (S tg) ∧ wz.cell? ⟨w.heap.size, 2, none⟩ = some (.int .i64 wa) ∧ wz.cell? ⟨w.heap.size, 3, none⟩ = some (.int .i64 nd) ∧ wz.cell? ⟨w.heap.size, 4, none⟩ = some (.int .i64 wh) ∧ wz.cell? ⟨w.heap.size + 1, 0, none⟩ = some (lv) ∧ wz.cell? ⟨w.heap.size + 1, 1, none⟩ = some (.int .i64 df) ∧ wz.cell? ⟨w.heap.size + 1, 2, none⟩ = some (mv) ∧ wz.cell? ⟨w.heap.size + 1, 3, none⟩ = some (.bool op) := by
    refine ⟨hB0, ?_, ?_, ?_, ?_, ?_, ?_, ?_, ?_, ?_⟩
    all_goals first | (rw [cell_of_row wz w.heap.size _ _ _ _ hX0]; rfl) | (rw [cell_of_row wz (w.heap.size + 1) _ _ _ _ hP0]; rfl)
  clear hB0 hX0 hP0
  go_region_held3 (fun w' => Below w.heap.size w w' ∧ w'.cell? ⟨w.heap.size, 0, none⟩ = some (S sn) ∧ w'.cell? ⟨w.heap.size, 1, none⟩ = some (S tg) ∧ w'.cell? ⟨w.heap.size, 2, none⟩ = some (.int .i64 wa) ∧ w'.cell? ⟨w.heap.size, 3, none⟩ = some (.int .i64 nd) ∧ w'.cell? ⟨w.heap.size, 4, none⟩ = some (.int .i64 wh) ∧ w'.cell? ⟨w.heap.size + 1, 0, none⟩ = some (lv) ∧ w'.cell? ⟨w.heap.size + 1, 1, none⟩ = some (.int .i64 df) ∧ w'.cell? ⟨w.heap.size + 1, 2, none⟩ = some (mv) ∧ w'.cell? ⟨w.heap.size + 1, 3, none⟩ = some (.bool op)) (first | exact KD.out _ (by assumption) | exact KP.out _ _ (by assumption) (by assumption) | exact KP.out _ _ (by assumption) ((Below.refl _ _).alloc (Nat.le_refl _) _) | assumption | go_keep)
    (first
      | (go_at_call 83; refine (WL _ _ (by exact And.left (by assumption))).mono ?_; rintro e w1 ⟨rfl, hb1⟩)
      | (go_at_call 84; refine (WI _ _ (by exact And.left (by assumption))).mono ?_; rintro e w1 ⟨rfl, hb1⟩)
      | (go_at_call 85; refine (WK _).mono ?_; rintro e w1 ⟨rfl, rfl⟩)
      | (go_at_call 86; refine (WT _ _).mono ?_; rintro e w1 ⟨rfl, rfl⟩))
  rename_i hHeld
  have hBl := hHeld.1
  have hnew := heap_alloc_new w1 (.cells #[.int .i64 (firstI df ls sn), .int .i64 (firstI df ls tg), .int .i64 nd, .int .i64 wh, .int .i64 (firstK ms sn), .int .i64 (firstK ms tg), .int .i64 (knownI wa), .int .i64 (truthI (sn == tg)), .int .i64 (truthI op)] 2)
  clear hHeld KP KD WL WI WK WT hS0
  have HN : Hid _ := And.intro hBl hnew
  clear hBl hnew
  go_wp2_with fail
  go_ret
  refine ⟨⟨w1.heap.size, rfl, fun i hi => ?_⟩, HN.out.1⟩
  rw [cell_of_row _ w1.heap.size i _ _ _ HN.out.2, HF.out]
  have e9 : i = 0 ∨ i = 1 ∨ i = 2 ∨ i = 3 ∨ i = 4 ∨ i = 5 ∨ i = 6 ∨ i = 7 ∨ i = 8 := by omega
  rcases e9 with rfl | rfl | rfl | rfl | rfl | rfl | rfl | rfl | rfl <;> rfl
end Go.Proofs.YtfkdailfcmnjlaaGreatDoor

namespace Go.Proofs.YtfkdailfcmnjlaaGreatDoor
open Go Go.RowKit
set_option maxRecDepth 100000

/-- The first rule that tells true, and its number. -/
def meanL (xs : List Itm) (fl : List Int) (L : List Pt) : List Itm → List Int → Nat → Option (Bool × Nat)
  | [], _, _ => none
  | x :: r, vals, n =>
    if x.name = [] then (if tellF xs vals fl L (x.top + 1) x.top = 1 then some (x.allow, n + 1) else meanL xs fl L r (vals ++ [tellF xs vals fl L (x.top + 1) x.top]) (n + 1))
    else meanL xs fl L r (vals ++ [tellF xs vals fl L (x.top + 1) x.top]) n
/-- What Mean answers of a text. -/
def meanOf (l : List UInt8) (fl : List Int) : Bool × Nat := if (readOf l).1.1 = 0 then (meanL (readOf l).2.2 fl (readOf l).2.1 (readOf l).2.2 [] 0).getD (false, 0) else (false, 0)

/-- What a text that was read gives for what it says. -/
structure MeanOK (L : List Pt) (xs : List Itm) : Prop where
  print : PrintOK L xs
  parts : PartsOK L
  names : namesAt xs L xs 0 0 = none
  types : typesAt xs L xs [] = none
theorem mean_known2 (l : List UInt8) (h0 : (readOf l).1.1 = 0) : PartsOK (readOf l).2.1 ∧ namesAt (readOf l).2.2 (readOf l).2.1 (readOf l).2.2 0 0 = none ∧ typesAt (readOf l).2.2 (readOf l).2.1 (readOf l).2.2 [] = none := by
  unfold readOf at *
  by_cases h1 : 1000 < l.length
  · rw [if_pos h1] at h0; simp at h0
  · rw [if_neg h1] at h0 ⊢
    cases hx : (lex (l.length + 1) l 0).2 with
    | some p => rw [hx] at h0; simp at h0
    | none =>
      rw [hx] at h0
      simp only [] at h0 ⊢
      have hlex : lex (l.length + 1) l 0 = ((lex (l.length + 1) l 0).1, none) := by rw [← hx]
      obtain ⟨r1, r2, r3, r4, r5⟩ := lex_ok l (by omega) (l.length + 1) 0 _ (Nat.zero_le _) (by omega) hlex
      obtain ⟨hwo, hwl⟩ := lex_words l (l.length + 1) 0 _ (Nat.zero_le _) (by omega) hlex
      generalize (lex (l.length + 1) l 0).1 = ts at *
      obtain ⟨R, hR⟩ := parse_total (F := 16 * ts.length + 8) (Nat.le_refl _) r4 (ts.length + 1) 0 [] [] (by omega)
      have e : allOf ts = R := by unfold allOf; rw [hR]; rfl
      rw [e] at h0 ⊢
      have ok : R.ok = true := by
        cases hk : R.ok with
        | true => rfl
        | false => unfold verdictOf at h0; rw [if_pos hk] at h0; simp at h0
      refine ⟨(all_known hwo (by omega) hR ok).2.1, ?_⟩
      unfold verdictOf at h0
      rw [if_neg (by rw [ok]; simp)] at h0
      cases hm : manyAt R.L R.xs 0 0 with
      | some p => rw [hm] at h0; simp at h0
      | none =>
        rw [hm] at h0
        simp only [] at h0
        cases hn : namesAt R.xs R.L R.xs 0 0 with
        | some p => rw [hn] at h0; simp at h0
        | none =>
          rw [hn] at h0
          simp only [] at h0
          cases ht : typesAt R.xs R.L R.xs [] with
          | some p => rw [ht] at h0; simp at h0
          | none => exact ⟨rfl, rfl⟩
theorem mean_known (l : List UInt8) (h0 : (readOf l).1.1 = 0) : MeanOK (readOf l).2.1 (readOf l).2.2 := by
  obtain ⟨a, b, c⟩ := mean_known2 l h0
  exact ⟨print_known l h0, a, b, c⟩

/-- At an item, with what the ones ahead told. -/
def MeanAt (xs : List Itm) (L : List Pt) (j : Nat) (vals : List Int) : Prop :=
  ∃ its fr, ValsOK its vals ∧ its.length = j ∧ TreesAt L (xs.drop j) fr ∧ namesAt xs L (xs.drop j) fr j = none ∧ typesAt xs L (xs.drop j) its = none
theorem MeanOK.start {L : List Pt} {xs : List Itm} (h : MeanOK L xs) : MeanAt xs L 0 [] :=
  ⟨[], 0, ⟨rfl, fun i hi => by simp at hi⟩, rfl, h.print.trees, h.names, h.types⟩
theorem MeanAt.item {xs : List Itm} {L : List Pt} {j : Nat} {vals : List Int} (hL : PartsOK L) (h : MeanAt xs L j vals) (hj : j < xs.length) :
    ∃ its lo, ValsOK its vals ∧ its.length = j ∧ TreeF (xs[j].top + 1) L lo xs[j].top ∧ Given xs its.length L lo (xs[j].top + 1) ∧ tyOf xs its L (xs[j].top + 1) xs[j].top ≠ 0 := by
  obtain ⟨its, fr, hV, hl, hT, hN, hY⟩ := h
  rw [List.drop_eq_getElem_cons hj] at hT hN hY
  refine ⟨its, fr, hV, hl, hT.1.fit, ?_, fun e => ?_⟩
  · rw [hl]; exact (names_given hL hT.1 hT.2.1 hN).1
  · rw [typesAt, if_pos (.inl (by rw [e]; rfl))] at hY; simp at hY
theorem MeanAt.next {xs : List Itm} {L : List Pt} {fl : List Int} {j : Nat} {vals : List Int} (hL : PartsOK L) (hP : PlainOK L) (hF : FieldsOK fl) (h : MeanAt xs L j vals) (hj : j < xs.length) :
    MeanAt xs L (j + 1) (vals ++ [tellF xs vals fl L (xs[j].top + 1) xs[j].top]) := by
  obtain ⟨its, fr, hV, hl, hT, hN, hY⟩ := h
  rw [List.drop_eq_getElem_cons hj] at hT hN hY
  obtain ⟨hg, hn2⟩ := names_given hL hT.1 hT.2.1 hN
  rw [typesAt] at hY
  by_cases hc : (tyOf xs its L (xs[j].top + 1) xs[j].top).toNat = 0 ∨ (xs[j].name = [] ∧ (tyOf xs its L (xs[j].top + 1) xs[j].top).toNat ≠ 116)
  · rw [if_pos hc] at hY; simp at hY
  · rw [if_neg hc] at hY
    refine ⟨its ++ [tyOf xs its L (xs[j].top + 1) xs[j].top], xs[j].parts, hV.snoc ?_, by simp [hl], hT.2.2, hn2, hY⟩
    refine tell_has hV hF hP.num _ hT.1.fit (by rw [hl]; exact hg) fun e => hc (.inl (by rw [e]; rfl))
theorem fields_ok (e : Ev) (s : Stt) (h1 : In64 e.need) (h2 : In64 e.when_) (h3 : In64 s.dflt) (hl : ∀ x ∈ s.levels, In64 x.2) : FieldsOK (fieldsL e s) := by
  have hfi : ∀ (ls : List (List UInt8 × Int)) (u : List UInt8), (∀ x ∈ ls, In64 x.2) → In64 (firstI s.dflt ls u) := fun ls u => by
    induction ls with
    | nil => intro _; exact h3
    | cons x r ih =>
      intro h
      rw [firstI]; split
      · exact h x (by simp)
      · exact ih fun y hy => h y (by simp [hy])
  have hkn : ∀ n : Int, In64 (knownI n) := fun n => by unfold knownI In64; split <;> omega
  have hfk : ∀ (ls : List (List UInt8 × Int)) (u : List UInt8), In64 (firstK ls u) := fun ls u => by
    induction ls with
    | nil => unfold firstK In64; omega
    | cons x r ih => rw [firstK]; split; exact hkn _; exact ih
  refine ⟨rfl, fun i hi => ?_⟩
  have e9 : i = 0 ∨ i = 1 ∨ i = 2 ∨ i = 3 ∨ i = 4 ∨ i = 5 ∨ i = 6 ∨ i = 7 ∨ i = 8 := by omega
  rcases e9 with rfl | rfl | rfl | rfl | rfl | rfl | rfl | rfl | rfl
  · exact ⟨hfi _ _ hl, fun e => absurd e (by decide)⟩
  · exact ⟨hfi _ _ hl, fun e => absurd e (by decide)⟩
  · exact ⟨h1, fun e => absurd e (by decide)⟩
  · exact ⟨h2, fun e => absurd e (by decide)⟩
  · exact ⟨hfk _ _, fun e => absurd e (by decide)⟩
  · exact ⟨hfk _ _, fun e => absurd e (by decide)⟩
  · exact ⟨hkn _, fun e => absurd e (by decide)⟩
  · exact has_truth _ _
  · exact has_truth _ _
end Go.Proofs.YtfkdailfcmnjlaaGreatDoor

namespace Go.Proofs.YtfkdailfcmnjlaaGreatDoor
open Go Go.RowKit
set_option maxRecDepth 100000
attribute [local go_sem ↓] Go.wp_at_zero Go.wp_at_succ

theorem info_i64 : (Tryz.prog.info? 2).map (fun i => (i.zero, i.size, i.bytes)) = some (some (.int .i64 0), 1, 8) := by kernel_rfl

/-- What the document's Mean finds behind 'read'. -/
def RefMean (B : Nat) (n : Nat) (fl : List Int) (r : Bool × Nat) (iv pv : Value) (w : World) : Prop :=
  (∃ a c a' b' c', iv = .slice a 0 c ∧ pv = .slice a' b' c' ∧ r = (false, 0)) ∨
  n = 0 ∧ ∃ gi c g cap ps xs, iv = .slice (some ⟨gi, 0, none⟩) xs.length c ∧ pv = .slice (some ⟨g, 0, none⟩) ps.length cap ∧ ItemsIn B iv xs w ∧ PartsIn B g cap ps w ∧ (∀ p ∈ ps, p.n = numOf p.tok) ∧ MeanOK (ps.map toPt) xs ∧ r = (meanL xs fl (ps.map toPt) xs [] 0).getD (false, 0)
theorem ref_mean (l : List UInt8) (fl : List Int) {w w' : World} {e : Ending} (h : ReadAns (readOf l).1.1 (readOf l).1.2 (readOf l).2.1 (readOf l).2.2 w e w') :
    Below w.heap.size w w' ∧ ∃ iv pv, e = .returned (.tuple #[.agg #[iv, pv], .int .i64 (readOf l).1.1, .int .i64 (readOf l).1.2]) ∧ RefMean w.heap.size (readOf l).1.1 fl (meanOf l fl) iv pv w' := by
  obtain ⟨hb, iv, pv, rfl, ⟨a, b, c, rfl⟩, ⟨a', b', c', rfl⟩, h1, h2⟩ := h
  refine ⟨hb, _, _, rfl, ?_⟩
  by_cases h0 : (readOf l).1.1 = 0
  · have hk := mean_known l h0
    have ht : meanOf l fl = (meanL (readOf l).2.2 fl (readOf l).2.1 (readOf l).2.2 [] 0).getD (false, 0) := by unfold meanOf; rw [if_pos h0]
    obtain ⟨hI, ps, hrow, hsub, hfew, hnum, hps⟩ := h2 h0
    rw [ht]
    generalize (readOf l).2.2 = xs at *
    rw [← hps] at hk ⊢
    cases hxs : xs with
    | nil =>
      subst hxs
      refine .inl ⟨a, c, a', b', c', ?_, rfl, rfl⟩
      rcases hI.form with ⟨e, _⟩ | ⟨gi, c1, e⟩
      · simp only [Value.slice.injEq] at e; rw [e.2.1]
      · simp only [Value.slice.injEq] at e; rw [e.2.1]; rfl
    | cons x r =>
      refine .inr ⟨h0, ?_⟩
      rw [← hxs]
      have hx0 : xs.length ≠ 0 := by rw [hxs]; simp
      have htr := hk.print.trees
      rw [hxs] at htr
      have htop := htr.1.fit.lt
      rcases hI.form with ⟨_, e⟩ | ⟨gi, c1, e⟩
      · exact absurd e hx0
      · rcases hrow.2 with ⟨_, e2⟩ | ⟨g, cap, cur, e2, _⟩
        · rw [List.length_map] at htop; omega
        · exact ⟨gi, c1, g, cap, ps, xs, e, e2, hI, ⟨e2 ▸ hrow, hsub, hfew⟩, hnum, hk, rfl⟩
  · obtain ⟨e1, e2⟩ := h1 h0
    refine .inl ⟨none, 0, a', b', c', e1, rfl, ?_⟩
    unfold meanOf; rw [if_neg h0]
def verV (r : Bool × Nat) : Value := .agg #[.bool r.1, .int .i64 r.2, .int .i64 0]

theorem ver_cells {w : World} {b : Nat} {x0 x1 x2 : Value} (h : w.heap[b]? = some (.cells #[x0, x1, x2] 40 (0, 0))) : (w.cell? ⟨b, 0, none⟩ = some x0 ∧ w.cell? ⟨b, 1, none⟩ = some x1 ∧ w.cell? ⟨b, 2, none⟩ = some x2) ∧ ∀ j, w.frozen? ⟨b, j, none⟩ = false := by
  have hc := fun j => cell_of_row w b j _ _ _ h
  exact ⟨⟨hc 0, hc 1, hc 2⟩, fun j => by simp [World.frozen?, h]⟩
set_option maxHeartbeats 8000000 in
theorem mean_ref {lv mv : Value} (l : List UInt8) (e : Ev) (s : Stt) (w : World) (hm : l.length ≤ maxLen) (h1 : PairsAt lv s.levels w) (h2 : PairsAt mv s.members w) (hw : In64 e.wants) (hF : FieldsOK (fieldsL e s)) :
    Calls Tryz.prog 19 #[S l, evV e, sttV lv mv s] w fun en w' => en = .returned (.tuple #[verV (meanOf l (fieldsL e s)), .int .i64 (readOf l).1.1]) ∧ Below w.heap.size w w' := by
  have HRD := fun W => (read_any l W hm).mono fun e' w' h => ref_mean l (fieldsL e s) h
  have HFD := fun W (hb : Below w.heap.size w W) => fields_ref e s W (h1.below hb) (h2.below hb) hw
  have HVV : Hid (verV = fun r => .agg #[.bool r.1, .int .i64 r.2, .int .i64 0]) := rfl
  clear hm hw
  have hol : lv.oneCell' = true := by obtain ⟨_, a, c, rfl, _⟩ := h1; rfl
  have hom : mv.oneCell' = true := by obtain ⟨_, a, c, rfl, _⟩ := h2; rfl
  clear h1 h2
  generalize fieldsL e s = fl at *
  generalize (readOf l).1.1 = n at *
  generalize (readOf l).1.2 = k at *
  generalize meanOf l fl = r at *
  unfold evV sttV at *
  obtain ⟨sn, tg, wa, nd, wh⟩ := e
  obtain ⟨ls, df, ms, op⟩ := s
  simp only [] at *
  have hB0 : Below w.heap.size w (((w.alloc (.cells #[S sn, S tg, .int .i64 wa, .int .i64 nd, .int .i64 wh] 46)).alloc (.cells #[lv, .int .i64 df, mv, .bool op] 50)).alloc (.cells #[.bool false, .int .i64 0, .int .i64 0] 40)) := (((Below.refl _ _).alloc (Nat.le_refl _) _).alloc (by simp) _).alloc (by simp; omega) _
  have hE0 : (((w.alloc (.cells #[S sn, S tg, .int .i64 wa, .int .i64 nd, .int .i64 wh] 46)).alloc (.cells #[lv, .int .i64 df, mv, .bool op] 50)).alloc (.cells #[.bool false, .int .i64 0, .int .i64 0] 40)).heap[w.heap.size]? = some (.cells #[S sn, S tg, .int .i64 wa, .int .i64 nd, .int .i64 wh] 46 (0, 0)) := by rw [Below.heap_alloc _ _ _ (by simp; omega), Below.heap_alloc _ _ _ (by simp)]; exact heap_alloc_new w _
  have hS0 : (((w.alloc (.cells #[S sn, S tg, .int .i64 wa, .int .i64 nd, .int .i64 wh] 46)).alloc (.cells #[lv, .int .i64 df, mv, .bool op] 50)).alloc (.cells #[.bool false, .int .i64 0, .int .i64 0] 40)).heap[w.heap.size + 1]? = some (.cells #[lv, .int .i64 df, mv, .bool op] 50 (0, 0)) := by
    rw [Below.heap_alloc _ _ _ (by simp)]
    have e := heap_alloc_new (w.alloc (.cells #[S sn, S tg, .int .i64 wa, .int .i64 nd, .int .i64 wh] 46)) (.cells #[lv, .int .i64 df, mv, .bool op] 50); rw [World.size_alloc] at e; exact e
  have hV0 : (((w.alloc (.cells #[S sn, S tg, .int .i64 wa, .int .i64 nd, .int .i64 wh] 46)).alloc (.cells #[lv, .int .i64 df, mv, .bool op] 50)).alloc (.cells #[.bool false, .int .i64 0, .int .i64 0] 40)).heap[w.heap.size + 1 + 1]? = some (.cells #[.bool false, .int .i64 0, .int .i64 0] 40 (0, 0)) := by
    have e := heap_alloc_new ((w.alloc (.cells #[S sn, S tg, .int .i64 wa, .int .i64 nd, .int .i64 wh] 46)).alloc (.cells #[lv, .int .i64 df, mv, .bool op] 50)) (.cells #[.bool false, .int .i64 0, .int .i64 0] 40); rw [World.size_alloc, World.size_alloc] at e; exact e
  have H0 : Hid _ := And.intro hB0 (And.intro hE0 (And.intro hS0 hV0))
  clear hB0 hE0 hS0 hV0
  go_enter Tryz.func19, Tryz.ntmps19
  go_wp2_with fail
  obtain ⟨hB0, hE0, hS0, hV0⟩ := H0.out
  clear H0
  generalize (((w.alloc (.cells #[S sn, S tg, .int .i64 wa, .int .i64 nd, .int .i64 wh] 46)).alloc (.cells #[lv, .int .i64 df, mv, .bool op] 50)).alloc (.cells #[.bool false, .int .i64 0, .int .i64 0] 40)) = wz at *
  refine (HRD _).mono ?_
  rintro e' w1 ⟨hb1, iv, pv, rfl, hA⟩
  clear HRD
  have hB1 := hB0.trans (hb1.mono hB0.size)
  have hSz : Hid (wz.heap.size ≤ w1.heap.size) := hb1.size
  have hE1 := (hb1.block _ (lt_of_get hE0)).trans hE0
  have hS1 := (hb1.block _ (lt_of_get hS0)).trans hS0
  have hV1 := (hb1.block _ (lt_of_get hV0)).trans hV0
  obtain ⟨ia, ib, ic, hiv⟩ : ∃ a b c, iv = .slice a b c := by
    rcases hA with ⟨a, c, a', b', c', h, _⟩ | ⟨_, gi, c, g, cap, ps, xs, h, _⟩ <;> exact ⟨_, _, _, h⟩
  obtain ⟨pa, pb, pc, hpv⟩ : ∃ a b c, pv = .slice a b c := by
    rcases hA with ⟨a, c, a', b', c', _, h, _⟩ | ⟨_, gi, c, g, cap, ps, xs, _, h, _⟩ <;> exact ⟨_, _, _, h⟩
  subst hiv hpv
  have hb2 : Below w1.heap.size w1 (w1.alloc (.cells #[.slice ia ib ic, .slice pa pb pc] 90)) := (Below.refl _ _).alloc (Nat.le_refl _) _
  have hB2 := hB1.trans (hb2.mono hB1.size)
  have hE2 := (hb2.block _ (lt_of_get hE1)).trans hE1
  have hS2 := (hb2.block _ (lt_of_get hS1)).trans hS1
  have hV2 := (hb2.block _ (lt_of_get hV1)).trans hV1
  have hP2 : (w1.alloc (.cells #[.slice ia ib ic, .slice pa pb pc] 90)).heap[w1.heap.size]? = some (.cells #[.slice ia ib ic, .slice pa pb pc] 90 (0, 0)) := heap_alloc_new w1 _
  have W2 := HFD _ hB2
  have HA : Hid (RefMean wz.heap.size n fl r (.slice ia ib ic) (.slice pa pb pc) w1) := hA
  have H2 : Hid _ := And.intro hB2 (And.intro hV2 (And.intro hP2 hb2))
  have c0 := cell_of_row w1 w.heap.size 0 _ _ _ hE1
  have c1 := cell_of_row w1 w.heap.size 1 _ _ _ hE1
  have c2 := cell_of_row w1 w.heap.size 2 _ _ _ hE1
  have c3 := cell_of_row w1 w.heap.size 3 _ _ _ hE1
  have c4 := cell_of_row w1 w.heap.size 4 _ _ _ hE1
  have d0 := cell_of_row w1 (w.heap.size + 1) 0 _ _ _ hS1
  have d1 := cell_of_row w1 (w.heap.size + 1) 1 _ _ _ hS1
  have d2 := cell_of_row w1 (w.heap.size + 1) 2 _ _ _ hS1
  have d3 := cell_of_row w1 (w.heap.size + 1) 3 _ _ _ hS1
  simp only [List.getElem?_toArray, List.getElem?_cons_zero, List.getElem?_cons_succ] at c0 c1 c2 c3 c4 d0 d1 d2 d3
  have ne1 : w.heap.size < w1.heap.size := lt_of_get hE1
  have ne2 : w.heap.size + 1 < w1.heap.size := lt_of_get hS1
  have ne3 : w1.heap.size ≠ w.heap.size := by omega
  have ne4 : w1.heap.size ≠ w.heap.size + 1 := by omega
  have ne5 : w.heap.size ≠ w1.heap.size := by omega
  have ne6 : w.heap.size + 1 ≠ w1.heap.size := by omega
  clear hA hB2 hV2 hP2 hb2 hE2 hS2 hB0 hE0 hS0 hV0 hb1 hB1 hE1 hS1 hV1 HFD
  go_wp2_with fail
  refine W2.mono ?_
  rintro e' w2 ⟨⟨gf, rfl, hfl⟩, hb3⟩
  clear W2 c0 c1 c2 c3 c4 d0 d1 d2 d3
  obtain ⟨hB2, hV2, hP2, hb2⟩ := H2.out
  have hB3 := hB2.trans (hb3.mono hB2.size)
  have hV3 := (hb3.block _ (lt_of_get hV2)).trans hV2
  have hP3 := (hb3.block _ (lt_of_get hP2)).trans hP2
  have hb4 : Below w1.heap.size w1 w2 := hb2.trans (hb3.mono hb2.size)
  clear H2 hB2 hV2 hP2 hb2 hb3
  rcases HA.out with ⟨a, c, a', b', c', e1, e2, hr⟩ | ⟨hn0, gi, c, g, cap, ps, xs, e1, e2, hI, hP, hnum, hk, hr⟩
  · cases e1
    cases e2
    subst hr
    clear HA hb4 hfl
    have HB : Hid _ := hB3
    have p0 := cell_of_row w2 w1.heap.size 0 _ _ _ hP3
    simp only [List.getElem?_toArray, List.getElem?_cons_zero, List.getElem?_cons_succ] at p0
    obtain ⟨⟨v0, v1, v2⟩, vf⟩ := ver_cells hV3
    go_wp2_with fail
    go_loop [12, 13, 14] (fun rl it i => rl = .int .i64 0 ∧ it = .slice none 0 0 ∧ i = .int .i64 0) (fun _ _ _ => 0)
    case atStart => exact ⟨rfl, rfl, rfl⟩
    case round =>
      obtain ⟨rfl, rfl, rfl⟩ := hrel
      go_wp2_with fail
      refine bodyPost_ret (v := .tuple #[.agg #[.bool false, .int .i64 0, .int .i64 0], .int .i64 n]) (by simp [results, Tryz.results19, go_sem, v0, v1, v2, vf]) rfl ?_
      exact ⟨rfl, ((HB.out.setCell (by simp; omega) _).setCell (by simp; omega) _).setCell (by simp; omega) _⟩
  · cases e1
    cases e2
    have hI2 := hI.below hb4
    have hP2 := hP.below hb4
    have hfew := hI2.few
    have hpfew := hP2.few
    have HI2 : Hid (ItemsIn wz.heap.size (.slice (some ⟨gi, 0, none⟩) xs.length ic) xs w2) := hI2
    have HP2 : Hid (PartsIn wz.heap.size g pc ps w2) := hP2
    have HFL : Hid (∀ i, i < 9 → w2.cell? ⟨gf, i, none⟩ = some (.int .i64 (fl.getD i 0))) := hfl
    have HNUM : Hid _ := hnum
    have HK : Hid _ := hk
    have HR : Hid _ := hr
    have HWZ : Hid (wz.heap.size ≤ w2.heap.size) := by
      show _ ≤ _
      have := hb4.size
      exact Nat.le_trans (hSz.out) this
    have HB3 : Hid _ := hB3
    have HV3 : Hid _ := hV3
    have HP3 : Hid _ := hP3
    have HF : Hid (FieldsOK fl) := hF
    obtain ⟨i0, hi, hz0, hz1, hz2⟩ := info_parts info_i64
    subst hn0
    clear HA hb4 hfl hI hP hI2 hP2 hnum hk hr hB3 hV3 hP3 hF
    go_wp2_with fail
    go_loopw [12, 13, 14] (fun rl it i wr => ∃ (j rule : Nat) (vals : List Int), j ≤ xs.length ∧ rule ≤ j ∧ vals.length = j ∧ rl = .int .i64 rule ∧ i = .int .i64 j ∧ Hid (MeanAt xs (ps.map toPt) j vals) ∧ Hid (meanL xs fl (ps.map toPt) xs [] 0 = meanL xs fl (ps.map toPt) (xs.drop j) vals rule) ∧ wr.ownsRow w2.heap.size 2 1 it vals.length (intCells vals) ∧ Below w2.heap.size w2 wr) (fun _ _ i _ => xs.length - (intOf i).toNat)
    case atStart => exact ⟨0, 0, [], Nat.zero_le _, Nat.le_refl _, rfl, rfl, rfl, HK.out.start, rfl, World.ownsRow_nil _ _ _ _, Below.refl _ _⟩
    case round =>
      obtain ⟨j, rule, vals, hj, hrj, hvj, rfl, rfl, HM, HL, hown, hbw⟩ := hrel
      have hVw := (hbw.block _ (lt_of_get HV3.out)).trans HV3.out
      have hPw := (hbw.block _ (lt_of_get HP3.out)).trans HP3.out
      have p0 := cell_of_row wr w1.heap.size 0 _ _ _ hPw
      have p1 := cell_of_row wr w1.heap.size 1 _ _ _ hPw
      simp only [List.getElem?_toArray, List.getElem?_cons_zero, List.getElem?_cons_succ] at p0 p1
      have hBw : Below w.heap.size w wr := HB3.out.trans (hbw.mono HB3.out.size)
      by_cases hlt : j < xs.length
      · obtain ⟨its, lo, hV, hil, hTF, hGv, hTy⟩ := HM.out.item HK.out.parts hlt
        have HNX : Hid _ := HM.out.next HK.out.parts HK.out.print.parts HF.out hlt
        have hTel : TelIn wz.heap.size gi ic g pc gf xs ps _ vals fl wr := ⟨HI2.out.below hbw, HP2.out.below hbw, ownsRow_weak hown HWZ.out, by omega, fun i hi => by rw [hbw.cell (p := ⟨gf, i, none⟩) (World.block_lt_of_cell? w2 _ (HFL.out i hi))]; exact HFL.out i hi⟩
        obtain ⟨c0, c1, c2, c3, c4, c5⟩ := hTel.items.cells j hlt
        have WT := tells_any hV HF.out HK.out.print.parts HNUM.out (xs[j].top + 1) hTF hGv hTy (hTel.below (Below.refl wr.heap.size wr).drew)
        have HST : Hid (meanL xs fl (ps.map toPt) (xs.drop j) vals rule = if xs[j].name = [] then (if tellF xs vals fl (ps.map toPt) (xs[j].top + 1) xs[j].top = 1 then some (xs[j].allow, rule + 1) else meanL xs fl (ps.map toPt) (xs.drop (j + 1)) (vals ++ [tellF xs vals fl (ps.map toPt) (xs[j].top + 1) xs[j].top]) (rule + 1)) else meanL xs fl (ps.map toPt) (xs.drop (j + 1)) (vals ++ [tellF xs vals fl (ps.map toPt) (xs[j].top + 1) xs[j].top]) rule) := by
          show _ = _; rw [List.drop_eq_getElem_cons hlt, meanL]
        have htop := hTF.lt
        rw [List.length_map] at htop
        have b1 : (0 : Int) ≤ (j : Int) := by omega
        have b2 : (j : Int) < (xs.length : Int) := by omega
        have lgi := World.block_lt_of_cell? wr _ c0
        simp only at lgi
        generalize tellF xs vals fl (ps.map toPt) (xs[j].top + 1) xs[j].top = tv at *
        have HTEL : Hid _ := hTel
        clear hV hil hTF hGv hTy hTel
        have KF : Hid (∀ w', Below wr.heap.size wr.drew w' → (w'.cell? ⟨w1.heap.size, 0, none⟩ = some (.slice (some ⟨gi, 0, none⟩) xs.length ic) ∧ w'.cell? ⟨w1.heap.size, 1, none⟩ = some (.slice (some ⟨g, 0, none⟩) ps.length pc) ∧ w'.cell? ⟨gi, j * 6 + 2, none⟩ = some (.int .i64 xs[j].top))) := fun w' h => by
          rw [h.cell (p := ⟨w1.heap.size, 0, none⟩) (lt_of_get hPw), h.cell (p := ⟨w1.heap.size, 1, none⟩) (lt_of_get hPw), h.cell (p := ⟨gi, j * 6 + 2, none⟩) lgi]
          exact ⟨p0, p1, c2⟩
        have HC2 : Hid (∀ w', Below w2.heap.size w2 w' → (w'.cell? ⟨w1.heap.size, 0, none⟩ = some (.slice (some ⟨gi, 0, none⟩) xs.length ic) ∧ w'.cell? ⟨w1.heap.size, 1, none⟩ = some (.slice (some ⟨g, 0, none⟩) ps.length pc) ∧ w'.cell? ⟨gi, j * 6, none⟩ = some (S xs[j].name) ∧ w'.cell? ⟨gi, j * 6 + 1, none⟩ = some (.bool xs[j].allow))) := fun w' h => by
          have hP' := (h.block _ (lt_of_get HP3.out)).trans HP3.out
          obtain ⟨d0, d1, _⟩ := (HI2.out.below h).cells j hlt
          exact ⟨cell_of_row w' w1.heap.size 0 _ _ _ hP', cell_of_row w' w1.heap.size 1 _ _ _ hP', d0, d1⟩
        clear hPw hVw HTEL
        generalize xs[j] = x at *
        by_cases hnm : x.name = []
        · have n1 : (x.name == []) = true := by simpa using hnm
          have n2 : (x.name != []) = false := by simpa using hnm
          by_cases htv : tv = 1
          · subst htv
            have HE : Hid (r = (x.allow, rule + 1)) := by show _ = _; rw [HR.out, HL.out, HST.out, if_pos hnm, if_pos rfl]; rfl
            have HBw : Hid _ := hBw
            clear hnm HST hBw
            go_wp2_with fail
            go_region_held3 (fun w' => w'.cell? ⟨w1.heap.size, 0, none⟩ = some (.slice (some ⟨gi, 0, none⟩) xs.length ic) ∧ w'.cell? ⟨w1.heap.size, 1, none⟩ = some (.slice (some ⟨g, 0, none⟩) ps.length pc) ∧ w'.cell? ⟨gi, j * 6 + 2, none⟩ = some (.int .i64 x.top)) (first | exact KF.out _ hb5 | go_keep) ((go_at_call 42; refine WT.mono ?_; rintro e w5 ⟨rfl, hb5⟩))
            rename_i hHeld
            clear hHeld
            have hb6 : Below wr.heap.size wr w5 := (Below.refl _ _).drew.trans hb5
            have hB5 : Below w2.heap.size w2 w5 := hbw.trans (hb6.mono hbw.size)
            have hown5 := ownsRow_below hown hb6
            have hs5 := hB5.size
            clear hown p0 p1 hb5 hb6 KF WT c0 c1 c2 c3 c4 c5
            go_wp2_with (
              at_builtin
              go_must (refine wpList_append_lies _ (by rfl) _ _ 116 (by rfl) w2.heap.size 2 i0 (.int .i64 0) 1 8 Tryz.underlying116 hi hz0 hz1 hz2 (by rfl) (by decide) _ _ _ (by rfl) (hown5.alloc _) ⟨w5.heap.size, 0, none⟩ 1 1 [.int .i64 1] (by rfl) (by rfl) (World.news_of_block (heap_alloc_new w5 _)) (fun x hx => by simp at hx; rcases hx with rfl; rfl) (by decide) (by unfold maxLen; omega) (by omega) (by simp; omega) _ rfl ?_)
              intro g3 cap3 w3 hown3 hgrow3 hat hlt3
              have hB6 := below_far1 hB5 hown5 hgrow3
              obtain ⟨p0, p1, c0, c1⟩ := HC2.out w3 hB6
              obtain ⟨⟨v0, v1, v2⟩, vf⟩ := ver_cells ((hB6.block _ (lt_of_get HV3.out)).trans HV3.out)
              have HB6 : Hid _ := hB6
              have HO3 : Hid _ := hown3
              clear hB6 hown3 hgrow3)
            have HB7 : Hid (Below w.heap.size w w3) := HB3.out.trans (HB6.out.mono HB3.out.size)
            refine bodyPost_ret (v := .tuple #[.agg #[.bool x.allow, .int .i64 ((rule : Int) + 1), .int .i64 0], .int .i64 0]) (by simp [results, Tryz.results19, go_sem, v0, v1, v2, vf]) rfl ?_
            exact ⟨by rw [HE.out]; rfl, ((HB7.out.setCell (by simp; omega) _).setCell (by simp; omega) _).setCell (by simp; omega) _⟩
          · have t1 : (tv == 1) = false := by simpa using htv
            have HST2 : Hid (meanL xs fl (ps.map toPt) (xs.drop j) vals rule = meanL xs fl (ps.map toPt) (xs.drop (j + 1)) (vals ++ [tv]) (rule + 1)) := by show _ = _; rw [HST.out, if_pos hnm, if_neg htv]
            clear hnm htv HST hBw
            go_wp2_with fail
            go_region_held3 (fun w' => w'.cell? ⟨w1.heap.size, 0, none⟩ = some (.slice (some ⟨gi, 0, none⟩) xs.length ic) ∧ w'.cell? ⟨w1.heap.size, 1, none⟩ = some (.slice (some ⟨g, 0, none⟩) ps.length pc) ∧ w'.cell? ⟨gi, j * 6 + 2, none⟩ = some (.int .i64 x.top)) (first | exact KF.out _ hb5 | go_keep) ((go_at_call 42; refine WT.mono ?_; rintro e w5 ⟨rfl, hb5⟩))
            rename_i hHeld
            clear hHeld
            have hb6 : Below wr.heap.size wr w5 := (Below.refl _ _).drew.trans hb5
            have hB5 : Below w2.heap.size w2 w5 := hbw.trans (hb6.mono hbw.size)
            have hown5 := ownsRow_below hown hb6
            have hs5 := hB5.size
            clear hown p0 p1 hb5 hb6 KF WT c0 c1 c2 c3 c4 c5
            go_wp2_with (
              at_builtin
              go_must (refine wpList_append_lies _ (by rfl) _ _ 116 (by rfl) w2.heap.size 2 i0 (.int .i64 0) 1 8 Tryz.underlying116 hi hz0 hz1 hz2 (by rfl) (by decide) _ _ _ (by rfl) (hown5.alloc _) ⟨w5.heap.size, 0, none⟩ 1 1 [.int .i64 tv] (by rfl) (by rfl) (World.news_of_block (heap_alloc_new w5 _)) (fun x hx => by simp at hx; rcases hx with rfl; rfl) (by decide) (by unfold maxLen; omega) (by omega) (by simp; omega) _ rfl ?_)
              intro g3 cap3 w3 hown3 hgrow3 hat hlt3
              have hB6 := below_far1 hB5 hown5 hgrow3
              obtain ⟨p0, p1, c0, c1⟩ := HC2.out w3 hB6
              obtain ⟨⟨v0, v1, v2⟩, vf⟩ := ver_cells ((hB6.block _ (lt_of_get HV3.out)).trans HV3.out)
              have HB6 : Hid _ := hB6
              have HO3 : Hid _ := hown3
              clear hB6 hown3 hgrow3)
            go_roundw
            case rel =>
              refine ⟨j + 1, rule + 1, vals ++ [tv], by omega, by omega, by simp; omega, by simp, by simp, HNX.out, ?_, ?_, HB6.out⟩
              · show _ = _
                rw [HL.out]; exact HST2.out
              · have e7 : intCells (vals ++ [tv]) = intCells vals ++ [.int .i64 tv] := by simp [intCells]
                have e8 : (vals ++ [tv]).length = vals.length + 1 := by simp
                rw [e7, e8]
                subst hvj
                exact HO3.out
            case measure => simp [intOf]; omega
        · have n1 : (x.name == []) = false := by simpa using hnm
          have n2 : (x.name != []) = true := by simpa using hnm
          have HST2 : Hid (meanL xs fl (ps.map toPt) (xs.drop j) vals rule = meanL xs fl (ps.map toPt) (xs.drop (j + 1)) (vals ++ [tv]) rule) := by show _ = _; rw [HST.out, if_neg hnm]
          clear hnm HST hBw
          go_wp2_with fail
          go_region_held3 (fun w' => w'.cell? ⟨w1.heap.size, 0, none⟩ = some (.slice (some ⟨gi, 0, none⟩) xs.length ic) ∧ w'.cell? ⟨w1.heap.size, 1, none⟩ = some (.slice (some ⟨g, 0, none⟩) ps.length pc) ∧ w'.cell? ⟨gi, j * 6 + 2, none⟩ = some (.int .i64 x.top)) (first | exact KF.out _ hb5 | go_keep) ((go_at_call 42; refine WT.mono ?_; rintro e w5 ⟨rfl, hb5⟩))
          rename_i hHeld
          clear hHeld
          have hb6 : Below wr.heap.size wr w5 := (Below.refl _ _).drew.trans hb5
          have hB5 : Below w2.heap.size w2 w5 := hbw.trans (hb6.mono hbw.size)
          have hown5 := ownsRow_below hown hb6
          have hs5 := hB5.size
          clear hown p0 p1 hb5 hb6 KF WT c0 c1 c2 c3 c4 c5
          go_wp2_with (
            at_builtin
            go_must (refine wpList_append_lies _ (by rfl) _ _ 116 (by rfl) w2.heap.size 2 i0 (.int .i64 0) 1 8 Tryz.underlying116 hi hz0 hz1 hz2 (by rfl) (by decide) _ _ _ (by rfl) (hown5.alloc _) ⟨w5.heap.size, 0, none⟩ 1 1 [.int .i64 tv] (by rfl) (by rfl) (World.news_of_block (heap_alloc_new w5 _)) (fun x hx => by simp at hx; rcases hx with rfl; rfl) (by decide) (by unfold maxLen; omega) (by omega) (by simp; omega) _ rfl ?_)
            intro g3 cap3 w3 hown3 hgrow3 hat hlt3
            have hB6 := below_far1 hB5 hown5 hgrow3
            obtain ⟨p0, p1, c0, c1⟩ := HC2.out w3 hB6
            obtain ⟨⟨v0, v1, v2⟩, vf⟩ := ver_cells ((hB6.block _ (lt_of_get HV3.out)).trans HV3.out)
            have HB6 : Hid _ := hB6
            have HO3 : Hid _ := hown3
            clear hB6 hown3 hgrow3)
          go_roundw
          case rel =>
            refine ⟨j + 1, rule, vals ++ [tv], by omega, by omega, by simp; omega, by simp, by simp, HNX.out, ?_, ?_, HB6.out⟩
            · show _ = _
              rw [HL.out]; exact HST2.out
            · have e7 : intCells (vals ++ [tv]) = intCells vals ++ [.int .i64 tv] := by simp [intCells]
              have e8 : (vals ++ [tv]).length = vals.length + 1 := by simp
              rw [e7, e8]
              subst hvj
              exact HO3.out
          case measure => simp [intOf]; omega
      · have hje : j = xs.length := by omega
        subst hje
        have HE : Hid (r = (false, 0)) := by
          show _ = _
          rw [HR.out, HL.out, List.drop_length]; rfl
        obtain ⟨⟨v0, v1, v2⟩, vf⟩ := ver_cells hVw
        have HB : Hid _ := hBw
        clear hown hbw hVw hPw hBw HM HL
        go_wp2_with fail
        refine bodyPost_ret (v := .tuple #[.agg #[.bool false, .int .i64 0, .int .i64 0], .int .i64 0]) (by simp [results, Tryz.results19, go_sem, v0, v1, v2, vf]) rfl ?_
        exact ⟨by rw [HE.out]; rfl, ((HB.out.setCell (by simp; omega) _).setCell (by simp; omega) _).setCell (by simp; omega) _⟩
end Go.Proofs.YtfkdailfcmnjlaaGreatDoor

namespace Go.Proofs.YtfkdailfcmnjlaaGreatDoor
open Go Go.RowKit
set_option maxRecDepth 100000

/-- An instruction: its byte, its number, its place. -/
structure Ins where
  op : Nat
  n : Int
  pl : Nat
def noIns : Ins := ⟨0, 0, 0⟩
/-- How many bytes an instruction has; 0: there is none. -/
def sizeOp (op : Nat) : Nat := if op = 1 then 9 else if 2 ≤ op ∧ op ≤ 6 then 2 else if 7 ≤ op ∧ op ≤ 14 then 1 else if op = 15 ∨ op = 16 then 3 else if op = 17 ∨ op = 18 then 2 else 0
/-- The greatest number of an instruction of two bytes. -/
def boundOp (op cells : Nat) : Int := if op = 2 then 1 else if op = 3 then 4 else if op = 4 then 8 else if op = 5 ∨ op = 6 then (cells : Int) - 1 else 255
def byteAt (b : List UInt8) (i : Nat) : Nat := (b.getD i 0).toNat
/-- The number that so many bytes are, the greatest first. -/
def beVal (b : List UInt8) (i : Nat) : Nat → Nat
  | 0 => 0
  | n + 1 => beVal b i n * 256 + byteAt b (i + n)
/-- Within 64 bits, with sign. -/
def signed64 (n : Nat) : Int := if n < 9223372036854775808 then (n : Int) else (n : Int) - 18446744073709551616
def numAt (b : List UInt8) (op at_ : Nat) : Int := if op = 1 then signed64 (beVal b (at_ + 1) 8) else (beVal b (at_ + 1) (sizeOp op - 1) : Int)
/-- The instruction at a place. -/
def insAt (b : List UInt8) (at_ : Nat) : Ins := ⟨byteAt b at_, numAt b (byteAt b at_) at_, at_⟩
/-- All instructions from a place on. -/
def dec : Nat → List UInt8 → Nat → Option (List Ins)
  | 0, _, _ => none
  | f + 1, b, a => if b.length ≤ a then some [] else if sizeOp (byteAt b a) ≠ 0 ∧ a + sizeOp (byteAt b a) ≤ b.length ∧ (sizeOp (byteAt b a) = 2 → (byteAt b (a + 1) : Int) ≤ boundOp (byteAt b a) (byteAt b 2)) then (dec f b (a + sizeOp (byteAt b a))).map (insAt b a :: ·) else none

/-- What is known at a place: the types on the stack (the uppermost first), those of the cells (0: none). -/
structure Kn where
  st : List Nat
  cl : List Nat
def fieldTy (n : Nat) : Nat := if n ≤ 3 then 1 else if n ≤ 6 then 3 else 2
def takesK (want more : List Nat) (k : Kn) : Option Kn := if k.st.take want.length = want then some ⟨more ++ k.st.drop want.length, k.cl⟩ else none
/-- What is known behind an instruction. -/
def doesK (op n : Nat) (k : Kn) : Option Kn :=
  if op = 1 then some ⟨1 :: k.st, k.cl⟩
  else if op = 2 then some ⟨2 :: k.st, k.cl⟩
  else if op = 3 then some ⟨3 :: k.st, k.cl⟩
  else if op = 4 then some ⟨fieldTy n :: k.st, k.cl⟩
  else if op = 5 then (match k.st with
    | [] => none
    | t :: r => some ⟨r, k.cl.set n t⟩)
  else if op = 6 then (if k.cl.getD n 0 = 0 then none else some ⟨k.cl.getD n 0 :: k.st, k.cl⟩)
  else if op = 7 ∨ op = 8 then takesK [1, 1] [1] k
  else if op = 9 then (match k.st with
    | x :: y :: r => if x = y then some ⟨2 :: r, k.cl⟩ else none
    | _ => none)
  else if op = 10 ∨ op = 11 then takesK [1, 1] [2] k
  else if op = 12 then takesK [2] [2] k
  else if op = 13 ∨ op = 14 then takesK [2, 2] [2] k
  else if op = 15 then takesK [2] [] k
  else some k
/-- Where a jump comes to. -/
def jumpTo (ins : List Ins) (x : Ins) : Option Nat := ins.findIdx? fun y => y.pl == x.pl + 3 + x.n.toNat
/-- Where an instruction leads. -/
def leadsK (ins : List Ins) (i : Nat) (x : Ins) : List (Option Nat) :=
  if x.op = 15 then [if i + 1 < ins.length then some (i + 1) else none, jumpTo ins x]
  else if x.op = 16 then [jumpTo ins x]
  else if x.op = 17 ∨ x.op = 18 then []
  else [if i + 1 < ins.length then some (i + 1) else none]
def meetC (a b : List Nat) : List Nat := List.zipWith (fun x y => if x = y then x else 0) a b
def bringK (come : List (Option Kn)) (k : Kn) : List (Option Nat) → Option (List (Option Kn))
  | [] => some come
  | none :: _ => none
  | some j :: r => match come.getD j none with
    | none => bringK (come.set j (some k)) k r
    | some a => if a.st = k.st then bringK (come.set j (some ⟨a.st, meetC a.cl k.cl⟩)) k r else none
def flowK (ins : List Ins) (depth : Nat) : List Ins → Nat → List (Option Kn) → Bool
  | [], _, _ => true
  | x :: r, i, come => match come.getD i none with
    | none => flowK ins depth r (i + 1) come
    | some k => match doesK x.op x.n.toNat k with
      | none => false
      | some k' => if depth < k'.st.length then false else (match bringK come k' (leadsK ins i x) with
        | none => false
        | some come' => flowK ins depth r (i + 1) come')
def come0 (cells n : Nat) : List (Option Kn) := some ⟨[], List.replicate cells 0⟩ :: List.replicate (n - 1) none
/-- The code that bytes are, if they may be one. -/
def loadOf (b : List UInt8) : Option (List Ins) :=
  if b.length < 4 ∨ 4000 < b.length ∨ byteAt b 0 ≠ 71 ∨ 24 < byteAt b 1 then none else
  match dec (b.length + 1) b 3 with
  | none => none
  | some ins => if flowK ins (byteAt b 1) ins 0 (come0 (byteAt b 2) ins.length) then some ins else none

/-- What an instruction makes of two. -/
def twoOp (op : Nat) (a b : Int) : Int :=
  if op = 7 then clampI (a + b) else if op = 8 then clampI (a - b) else if op = 9 then truthI (a == b) else if op = 10 then truthI (decide (a < b))
  else if op = 11 then truthI (decide (a ≤ b)) else if op = 13 then truthI (a == 1 && b == 1) else truthI (a == 1 || b == 1)
/-- A step of the machine: the stack (the uppermost first), the cells; does it jump? -/
def stepK (fl : List Int) (x : Ins) (st cl : List Int) : Option (List Int × List Int × Bool) :=
  if x.op = 1 ∨ x.op = 2 ∨ x.op = 3 then some (x.n :: st, cl, false)
  else if x.op = 4 then some (fl.getD x.n.toNat 0 :: st, cl, false)
  else if x.op = 5 then (match st with
    | [] => none
    | v :: r => some (r, cl.set x.n.toNat v, false))
  else if x.op = 6 then some (cl.getD x.n.toNat 0 :: st, cl, false)
  else if x.op = 12 then (match st with
    | [] => none
    | v :: r => some ((1 - v) :: r, cl, false))
  else if x.op = 15 then (match st with
    | [] => none
    | v :: r => some (r, cl, v == 0))
  else if x.op = 16 then some (st, cl, true)
  else (match st with
    | b :: a :: r => some (twoOp x.op a b :: r, cl, false)
    | _ => none)
/-- What the machine ends with, from an instruction on. -/
def runK (ins : List Ins) (fl : List Int) : Nat → Nat → List Int → List Int → Nat → Option (Bool × Nat × Nat)
  | 0, _, _, _, _ => none
  | f + 1, i, st, cl, n =>
    if i < ins.length then
      if (ins.getD i noIns).op = 17 ∨ (ins.getD i noIns).op = 18 then some (decide ((ins.getD i noIns).op = 17), (ins.getD i noIns).n.toNat, n + 1)
      else match stepK fl (ins.getD i noIns) st cl with
        | none => none
        | some (st', cl', false) => runK ins fl f (i + 1) st' cl' (n + 1)
        | some (st', cl', true) => match jumpTo ins (ins.getD i noIns) with
          | none => none
          | some j => runK ins fl f j st' cl' (n + 1)
    else none
end Go.Proofs.YtfkdailfcmnjlaaGreatDoor

namespace Go.Proofs.YtfkdailfcmnjlaaGreatDoor
open Go Go.RowKit
set_option maxRecDepth 100000

theorem byte_lt (b : List UInt8) (i : Nat) : byteAt b i < 256 := UInt8.toNat_lt _
theorem beVal_lt (b : List UInt8) (i n : Nat) : beVal b i n < 256 ^ n := by
  induction n with
  | zero => simp [beVal]
  | succ n ih => rw [beVal, Nat.pow_succ]; have := byte_lt b (i + n); omega
theorem signed_in {n : Nat} (h : n < 18446744073709551616) : In64 (signed64 n) := by
  unfold signed64 In64; split <;> omega
theorem size_le (op : Nat) : sizeOp op ≤ 9 := by unfold sizeOp; (repeat' split) <;> omega
theorem size_op {op : Nat} (h : sizeOp op ≠ 0) : 1 ≤ op ∧ op ≤ 18 := by
  unfold sizeOp at h
  by_cases h1 : op = 1
  · omega
  rw [if_neg h1] at h
  by_cases h2 : 2 ≤ op ∧ op ≤ 6
  · omega
  rw [if_neg h2] at h
  by_cases h3 : 7 ≤ op ∧ op ≤ 14
  · omega
  rw [if_neg h3] at h
  by_cases h4 : op = 15 ∨ op = 16
  · omega
  rw [if_neg h4] at h
  by_cases h5 : op = 17 ∨ op = 18
  · omega
  rw [if_neg h5] at h; exact absurd rfl h
/-- An instruction of bytes. -/
structure InsOK (b : List UInt8) (x : Ins) : Prop where
  here : x = insAt b x.pl
  size : sizeOp x.op ≠ 0
  fits : x.pl + sizeOp x.op ≤ b.length
  bound : sizeOp x.op = 2 → (byteAt b (x.pl + 1) : Int) ≤ boundOp x.op (byteAt b 2)
/-- The instructions stand one behind the other. -/
def Behind (a e : Nat) : List Ins → Prop
  | [] => a = e
  | x :: r => x.pl = a ∧ Behind (a + sizeOp x.op) e r
theorem dec_ok {b : List UInt8} (f : Nat) : ∀ {a : Nat} {ins : List Ins}, dec f b a = some ins → a ≤ b.length → (∀ x ∈ ins, InsOK b x) ∧ Behind a b.length ins := by
  induction f with
  | zero => intro a ins h; simp [dec] at h
  | succ f ih =>
    intro a ins h ha
    rw [dec] at h
    by_cases h1 : b.length ≤ a
    · rw [if_pos h1] at h; simp at h; subst h; exact ⟨by simp, by unfold Behind; omega⟩
    rw [if_neg h1] at h
    by_cases h2 : sizeOp (byteAt b a) ≠ 0 ∧ a + sizeOp (byteAt b a) ≤ b.length ∧ (sizeOp (byteAt b a) = 2 → (byteAt b (a + 1) : Int) ≤ boundOp (byteAt b a) (byteAt b 2))
    · rw [if_pos h2] at h
      cases hd : dec f b (a + sizeOp (byteAt b a)) with
      | none => rw [hd] at h; simp at h
      | some r =>
        rw [hd] at h; simp at h; subst h
        obtain ⟨i1, i2⟩ := ih hd h2.2.1
        refine ⟨fun x hx => ?_, rfl, i2⟩
        rcases List.mem_cons.1 hx with rfl | hx
        · exact ⟨rfl, h2.1, h2.2.1, h2.2.2⟩
        · exact i1 x hx
    · rw [if_neg h2] at h; simp at h
theorem behind_le {e : Nat} : ∀ {ins : List Ins} {a : Nat}, (∀ x ∈ ins, sizeOp x.op ≠ 0) → Behind a e ins → a + ins.length ≤ e ∧ ∀ i, i < ins.length → a ≤ (ins.getD i noIns).pl ∧ (ins.getD i noIns).pl < e
  | [], a, _, h => ⟨by unfold Behind at h; simp; omega, fun i hi => by simp at hi⟩
  | x :: r, a, hs, h => by
    obtain ⟨h1, h2⟩ := h
    have hx := hs x (by simp)
    obtain ⟨i1, i2⟩ := behind_le (fun y hy => hs y (by simp [hy])) h2
    refine ⟨by simp; omega, fun i hi => ?_⟩
    cases i with
    | zero => simp only [List.getD_cons_zero]; omega
    | succ i => rw [List.getD_cons_succ]; have := i2 i (by simpa using hi); omega
theorem behind_inc {e : Nat} : ∀ {ins : List Ins} {a : Nat}, (∀ x ∈ ins, sizeOp x.op ≠ 0) → Behind a e ins → ∀ i j, i < j → j < ins.length → (ins.getD i noIns).pl + sizeOp (ins.getD i noIns).op ≤ (ins.getD j noIns).pl
  | [], a, _, h => fun i j _ hj => by simp at hj
  | x :: r, a, hs, h => fun i j hij hj => by
    obtain ⟨h1, h2⟩ := h
    obtain ⟨j, rfl⟩ : ∃ k, j = k + 1 := ⟨j - 1, by omega⟩
    rw [List.getD_cons_succ]
    have hr : ∀ y ∈ r, sizeOp y.op ≠ 0 := fun y hy => hs y (by simp [hy])
    cases i with
    | zero => simp only [List.getD_cons_zero]; have := (behind_le hr h2).2 j (by simpa using hj); omega
    | succ i => rw [List.getD_cons_succ]; exact behind_inc hr h2 i j (by omega) (by simpa using hj)
/-- The instructions of bytes. -/
structure CodeOK (b : List UInt8) (ins : List Ins) : Prop where
  each : ∀ x ∈ ins, InsOK b x
  order : Behind 3 b.length ins
theorem getD_ins {ins : List Ins} {i : Nat} (h : i < ins.length) : ins.getD i noIns ∈ ins := by rw [List.getD_eq_getElem?_getD, List.getElem?_eq_getElem h]; exact List.getElem_mem h
theorem jump_fwd {b : List UInt8} {ins : List Ins} (h : CodeOK b ins) {i j : Nat} (hi : i < ins.length) (hj : jumpTo ins (ins.getD i noIns) = some j) : i < j ∧ j < ins.length ∧ (ins.getD j noIns).pl = (ins.getD i noIns).pl + 3 + (ins.getD i noIns).n.toNat := by
  unfold jumpTo at hj
  rw [List.findIdx?_eq_some_iff_getElem] at hj
  obtain ⟨h1, h2, _⟩ := hj
  have e : ins.getD j noIns = ins[j] := by rw [List.getD_eq_getElem?_getD, List.getElem?_eq_getElem h1]; rfl
  have h3 : (ins.getD j noIns).pl = (ins.getD i noIns).pl + 3 + (ins.getD i noIns).n.toNat := by rw [e]; simpa using h2
  refine ⟨?_, h1, h3⟩
  by_cases hij : i < j
  · exact hij
  · exfalso
    by_cases hje : j = i
    · subst hje; omega
    · have := behind_inc (fun x hx => (h.each x hx).size) h.order j i (by omega) hi
      omega

/-- Less is known of the cells. -/
def LeC (a b : List Nat) : Prop := ∀ c, a.getD c 0 ≠ 0 → a.getD c 0 = b.getD c 0
theorem LeC.refl (a : List Nat) : LeC a a := fun _ _ => rfl
theorem LeC.trans {a b c : List Nat} (h1 : LeC a b) (h2 : LeC b c) : LeC a c := fun i h => by
  have e := h1 i h
  rw [e] at h ⊢; exact h2 i h
theorem meet_at (a b : List Nat) (c : Nat) : (meetC a b).getD c 0 = if c < a.length ∧ c < b.length then (if a.getD c 0 = b.getD c 0 then a.getD c 0 else 0) else 0 := by
  unfold meetC
  by_cases h : c < a.length ∧ c < b.length
  · rw [if_pos h]
    simp [List.getD_eq_getElem?_getD, List.getElem?_zipWith, List.getElem?_eq_getElem h.1, List.getElem?_eq_getElem h.2]
  · rw [if_neg h, List.getD_eq_getElem?_getD, List.getElem?_eq_none (by simp; omega)]; rfl
theorem meet_left (a b : List Nat) : LeC (meetC a b) a := fun c h => by
  rw [meet_at] at h ⊢
  split at h
  · rename_i hc
    rw [if_pos hc]
    split at h
    · rename_i he; rw [if_pos he]
    · exact absurd rfl h
  · exact absurd rfl h
theorem meet_right (a b : List Nat) : LeC (meetC a b) b := fun c h => by
  rw [meet_at] at h ⊢
  split at h
  · rename_i hc
    rw [if_pos hc]
    split at h
    · rename_i he; rw [if_pos he]; exact he
    · exact absurd rfl h
  · exact absurd rfl h
/-- A later state of knowledge at a place. -/
def Later (a b : Option Kn) : Prop := ∀ k, a = some k → ∃ k', b = some k' ∧ k'.st = k.st ∧ LeC k'.cl k.cl
theorem Later.refl (a : Option Kn) : Later a a := fun k h => ⟨k, h, rfl, LeC.refl _⟩
theorem Later.trans {a b c : Option Kn} (h1 : Later a b) (h2 : Later b c) : Later a c := fun k h => by
  obtain ⟨k1, e1, s1, l1⟩ := h1 k h
  obtain ⟨k2, e2, s2, l2⟩ := h2 k1 e1
  exact ⟨k2, e2, s2.trans s1, l2.trans l1⟩
theorem getD_set_ne {α : Type} {l : List α} {i j : Nat} {v d : α} (h : i ≠ j) : (l.set i v).getD j d = l.getD j d := by
  simp [List.getD_eq_getElem?_getD, List.getElem?_set_ne h]
theorem getD_set_eq {α : Type} {l : List α} {i : Nat} {v d : α} (h : i < l.length) : (l.set i v).getD i d = v := by
  simp [List.getD_eq_getElem?_getD, h]
theorem bring_ok {k : Kn} : ∀ {ts : List (Option Nat)} {come come' : List (Option Kn)}, bringK come k ts = some come' → (∀ j, some j ∈ ts → j < come.length) →
    come'.length = come.length ∧ (∀ t ∈ ts, ∃ j, t = some j) ∧ (∀ j, some j ∈ ts → Later (some k) (come'.getD j none)) ∧ (∀ j, some j ∉ ts → come'.getD j none = come.getD j none) ∧ (∀ j, Later (come.getD j none) (come'.getD j none))
  | [], come, come', h, _ => by
    simp [bringK] at h; subst h
    exact ⟨rfl, by simp, by simp, fun _ _ => rfl, fun _ => Later.refl _⟩
  | none :: r, come, come', h, _ => by simp [bringK] at h
  | some j :: r, come, come', h, hlt => by
    have hj := hlt j (by simp)
    rw [bringK] at h
    have step : ∀ (n : Kn), Later (come.getD j none) (some n) → Later (some k) (some n) → bringK (come.set j (some n)) k r = some come' →
        come'.length = come.length ∧ (∀ t ∈ some j :: r, ∃ j, t = some j) ∧ (∀ i, some i ∈ some j :: r → Later (some k) (come'.getD i none)) ∧ (∀ i, some i ∉ some j :: r → come'.getD i none = come.getD i none) ∧ (∀ i, Later (come.getD i none) (come'.getD i none)) := by
      intro n h1 h2 h3
      obtain ⟨a1, a2, a3, a4, a5⟩ := bring_ok h3 (fun i hi => by simpa using hlt i (by simp [hi]))
      refine ⟨by simpa using a1, ?_, ?_, ?_, ?_⟩
      · intro t ht
        rcases List.mem_cons.1 ht with rfl | ht
        · exact ⟨j, rfl⟩
        · exact a2 t ht
      · intro i hi
        by_cases hir : some i ∈ r
        · exact a3 i hir
        · have e : i = j := by
            rcases List.mem_cons.1 hi with h | h
            · simpa using h
            · exact absurd h hir
          subst e
          rw [a4 i hir, getD_set_eq hj]; exact h2
      · intro i hi
        have h4 : some i ∉ r := fun h => hi (by simp [h])
        have h5 : j ≠ i := fun h => hi (by simp [h])
        rw [a4 i h4, getD_set_ne h5]
      · intro i
        refine Later.trans ?_ (a5 i)
        by_cases e : j = i
        · subst e; rw [getD_set_eq hj]; exact h1
        · rw [getD_set_ne e]; exact Later.refl _
    cases hc : come.getD j none with
    | none =>
      rw [hc] at h
      exact step k (by rw [hc]; intro k h; simp at h) (Later.refl _) h
    | some a =>
      rw [hc] at h
      simp only [] at h
      by_cases he : a.st = k.st
      · rw [if_pos he] at h
        refine step ⟨a.st, meetC a.cl k.cl⟩ ?_ ?_ h
        · rw [hc]; intro q hq; simp at hq; subst hq; exact ⟨_, rfl, rfl, meet_left _ _⟩
        · intro q hq; simp at hq; subst hq; exact ⟨_, rfl, he, meet_right _ _⟩
      · rw [if_neg he] at h; simp at h

/-- What is known at all places holds on each way. -/
def Good (ins : List Ins) (depth lo : Nat) (C : Nat → Option Kn) : Prop :=
  ∀ i, lo ≤ i → i < ins.length → ∀ k, C i = some k → ∃ k', doesK (ins.getD i noIns).op (ins.getD i noIns).n.toNat k = some k' ∧ k'.st.length ≤ depth ∧
    ∀ t ∈ leadsK ins i (ins.getD i noIns), ∃ j, t = some j ∧ i < j ∧ j < ins.length ∧ Later (some k') (C j)
theorem leads_fwd {b : List UInt8} {ins : List Ins} (h : CodeOK b ins) {i j : Nat} (hi : i < ins.length) (hj : some j ∈ leadsK ins i (ins.getD i noIns)) : i < j ∧ j < ins.length := by
  have nx : some j = (if i + 1 < ins.length then some (i + 1) else none) → i < j ∧ j < ins.length := fun e => by
    split at e
    · simp at e; omega
    · simp at e
  have jp : some j = jumpTo ins (ins.getD i noIns) → i < j ∧ j < ins.length := fun e => by
    have := jump_fwd h hi e.symm; omega
  unfold leadsK at hj
  split at hj
  · simp only [List.mem_cons, List.not_mem_nil, or_false] at hj
    rcases hj with hj | hj
    · exact nx hj
    · exact jp hj
  split at hj
  · simp only [List.mem_cons, List.not_mem_nil, or_false] at hj; exact jp hj
  split at hj
  · simp at hj
  · simp only [List.mem_cons, List.not_mem_nil, or_false] at hj; exact nx hj
theorem flow_good {b : List UInt8} {ins : List Ins} (h : CodeOK b ins) (depth : Nat) : ∀ (m i : Nat) (come : List (Option Kn)), ins.length - i = m → come.length = ins.length → flowK ins depth (ins.drop i) i come = true →
    ∃ C : Nat → Option Kn, (∀ j, j ≤ i → C j = come.getD j none) ∧ (∀ j, Later (come.getD j none) (C j)) ∧ Good ins depth i C := by
  intro m
  induction m with
  | zero =>
    intro i come hm hl _
    exact ⟨fun j => come.getD j none, fun _ _ => rfl, fun _ => Later.refl _, fun j h1 h2 => by omega⟩
  | succ m ih =>
    intro i come hm hl hf
    have hi : i < ins.length := by omega
    have hd : ins.drop i = ins.getD i noIns :: ins.drop (i + 1) := by rw [List.drop_eq_getElem_cons hi, List.getD_eq_getElem?_getD, List.getElem?_eq_getElem hi]; rfl
    rw [hd, flowK] at hf
    cases hc : come.getD i none with
    | none =>
      rw [hc] at hf
      obtain ⟨C, c1, c2, c3⟩ := ih (i + 1) come (by omega) hl hf
      refine ⟨C, fun j hj => c1 j (by omega), c2, fun j h1 h2 k hk => ?_⟩
      by_cases e : j = i
      · subst e; rw [c1 j (by omega), hc] at hk; simp at hk
      · exact c3 j (by omega) h2 k hk
    | some k =>
      rw [hc] at hf
      simp only [] at hf
      cases hk : doesK (ins.getD i noIns).op (ins.getD i noIns).n.toNat k with
      | none => rw [hk] at hf; simp at hf
      | some k' =>
        rw [hk] at hf
        simp only [] at hf
        by_cases hdp : depth < k'.st.length
        · rw [if_pos hdp] at hf; simp at hf
        rw [if_neg hdp] at hf
        cases hb : bringK come k' (leadsK ins i (ins.getD i noIns)) with
        | none => rw [hb] at hf; simp at hf
        | some come' =>
          rw [hb] at hf
          simp only [] at hf
          obtain ⟨a1, a2, a3, a4, a5⟩ := bring_ok hb (fun j hj => by rw [hl]; exact (leads_fwd h hi hj).2)
          obtain ⟨C, c1, c2, c3⟩ := ih (i + 1) come' (by omega) (by rw [a1]; exact hl) hf
          have keep : ∀ j, j ≤ i → come'.getD j none = come.getD j none := fun j hj => a4 j fun hm => by have := (leads_fwd h hi hm).1; omega
          refine ⟨C, fun j hj => (c1 j (by omega)).trans (keep j hj), fun j => (a5 j).trans (c2 j), fun j h1 h2 q hq => ?_⟩
          by_cases e : j = i
          · subst e
            rw [c1 j (by omega), keep j (by omega), hc] at hq
            simp at hq; subst hq
            refine ⟨k', hk, by omega, fun t ht => ?_⟩
            obtain ⟨j2, rfl⟩ := a2 t ht
            obtain ⟨f1, f2⟩ := leads_fwd h hi ht
            exact ⟨j2, rfl, f1, f2, (a3 j2 ht).trans (c2 j2)⟩
          · exact c3 j (by omega) h2 q hq
end Go.Proofs.YtfkdailfcmnjlaaGreatDoor

namespace Go.Proofs.YtfkdailfcmnjlaaGreatDoor
open Go Go.RowKit
set_option maxRecDepth 100000

/-- A value of a type, by the type's number. -/
def HasT (t : Nat) (v : Int) : Prop := In64 v ∧ (t = 2 → v = 0 ∨ v = 1)
theorem hasT_truth (t : Nat) (b : Bool) : HasT t (truthI b) := by
  unfold truthI HasT In64; cases b <;> simp
def TypedS : List Nat → List Int → Prop
  | [], [] => True
  | t :: ts, v :: vs => HasT t v ∧ TypedS ts vs
  | _, _ => False
theorem TypedS.len : ∀ {ts : List Nat} {vs : List Int}, TypedS ts vs → vs.length = ts.length
  | [], [], _ => rfl
  | _ :: _, _ :: _, h => by simp [TypedS.len h.2]
  | [], _ :: _, h => h.elim
  | _ :: _, [], h => h.elim
theorem TypedS.cons {t : Nat} {ts : List Nat} {vs : List Int} (h : TypedS (t :: ts) vs) : ∃ v r, vs = v :: r ∧ HasT t v ∧ TypedS ts r := by
  cases vs with
  | nil => exact h.elim
  | cons v r => exact ⟨v, r, rfl, h.1, h.2⟩
def TypedC (ts : List Nat) (cl : List Int) : Prop := ∀ c, ts.getD c 0 ≠ 0 → HasT (ts.getD c 0) (cl.getD c 0)
theorem TypedC.less {a b : List Nat} {cl : List Int} (h : TypedC b cl) (hl : LeC a b) : TypedC a cl := fun c hc => by
  have e := hl c hc
  rw [e] at hc ⊢; exact h c hc
/-- The fields have their types. -/
def FieldsT (fl : List Int) : Prop := ∀ n, n ≤ 8 → HasT (fieldTy n) (fl.getD n 0)

/-- What is known of an instruction's number. -/
structure NumOK (cells : Nat) (x : Ins) : Prop where
  op : 1 ≤ x.op ∧ x.op ≤ 18
  int : x.op = 1 → In64 x.n
  two : sizeOp x.op = 2 → 0 ≤ x.n ∧ x.n ≤ boundOp x.op cells ∧ x.n ≤ 255
  jump : sizeOp x.op = 3 → 0 ≤ x.n ∧ x.n ≤ 65535
theorem num_ok {b : List UInt8} {x : Ins} (h : InsOK b x) : NumOK (byteAt b 2) x := by
  have hn : x.n = numAt b x.op x.pl := by have := h.here; rw [this]; rfl
  have hb : sizeOp x.op = 2 → x.n = (byteAt b (x.pl + 1) : Int) := fun hs => by
    rw [hn]; unfold numAt
    rw [if_neg (by intro e; rw [e] at hs; simp [sizeOp] at hs), hs]
    simp [beVal]
  refine ⟨size_op h.size, fun h1 => ?_, fun hs => ?_, fun hs => ?_⟩
  · rw [hn]; unfold numAt; rw [if_pos h1]
    exact signed_in (by have := beVal_lt b (x.pl + 1) 8; omega)
  · have := h.bound hs
    have := byte_lt b (x.pl + 1)
    rw [hb hs]; omega
  · rw [hn]; unfold numAt
    rw [if_neg (by intro e; rw [e] at hs; simp [sizeOp] at hs), hs]
    have := beVal_lt b (x.pl + 1) 2
    simp only [Nat.reduceSub]
    omega

theorem two_hasT (op t : Nat) (a b : Int) (h : op = 7 ∨ op = 8 → t ≠ 2) : HasT t (twoOp op a b) := by
  unfold twoOp
  by_cases h7 : op = 7
  · rw [if_pos h7]; exact ⟨clamp_in _, fun e => absurd e (h (.inl h7))⟩
  rw [if_neg h7]
  by_cases h8 : op = 8
  · rw [if_pos h8]; exact ⟨clamp_in _, fun e => absurd e (h (.inr h8))⟩
  rw [if_neg h8]
  (repeat' split) <;> exact hasT_truth _ _

/-- The stack and the cells are as known. -/
structure Fits (k : Kn) (cells : Nat) (st cl : List Int) : Prop where
  typ : TypedS k.st st
  cel : TypedC k.cl cl
  len : cl.length = cells
theorem takes_st {want more : List Nat} {k k' : Kn} (h : takesK want more k = some k') : k.st = want ++ k.st.drop want.length ∧ k' = ⟨more ++ k.st.drop want.length, k.cl⟩ := by
  unfold takesK at h
  by_cases e : k.st.take want.length = want
  · rw [if_pos e] at h; simp at h
    refine ⟨?_, h.symm⟩
    conv => lhs; rw [← List.take_append_drop want.length k.st, e]
  · rw [if_neg e] at h; simp at h
/-- A step keeps to what is known. -/
theorem step_fits {cells : Nat} {fl : List Int} {x : Ins} {k k' : Kn} {st cl : List Int} (hx : NumOK cells x) (hF : FieldsT fl) (h : Fits k cells st cl) (hd : doesK x.op x.n.toNat k = some k') (h17 : ¬ (x.op = 17 ∨ x.op = 18)) :
    ∃ st' cl' j, stepK fl x st cl = some (st', cl', j) ∧ Fits k' cells st' cl' ∧ (j = true → x.op = 15 ∨ x.op = 16) ∧ (x.op = 16 → j = true) := by
  obtain ⟨kst, kcl⟩ := k
  obtain ⟨hst, hcl, hln⟩ := h
  simp only [] at hst hcl
  have hop := hx.op
  unfold doesK at hd
  unfold stepK
  simp only [] at hd
  by_cases h1 : x.op = 1
  · rw [if_pos h1] at hd; simp at hd; subst hd
    rw [if_pos (.inl h1)]
    exact ⟨_, _, _, rfl, ⟨⟨⟨hx.int h1, fun e => by simp at e⟩, hst⟩, hcl, hln⟩, by simp, by omega⟩
  rw [if_neg h1] at hd
  by_cases h2 : x.op = 2
  · rw [if_pos h2] at hd; simp at hd; subst hd
    rw [if_pos (.inr (.inl h2))]
    have hb := hx.two (by rw [h2]; rfl)
    have e : boundOp x.op cells = 1 := by unfold boundOp; rw [if_pos h2]
    exact ⟨_, _, _, rfl, ⟨⟨⟨by unfold In64; omega, fun _ => by omega⟩, hst⟩, hcl, hln⟩, by simp, by omega⟩
  rw [if_neg h2] at hd
  by_cases h3 : x.op = 3
  · rw [if_pos h3] at hd; simp at hd; subst hd
    rw [if_pos (.inr (.inr h3))]
    have hb := hx.two (by rw [h3]; rfl)
    exact ⟨_, _, _, rfl, ⟨⟨⟨by unfold In64; omega, fun e => by simp at e⟩, hst⟩, hcl, hln⟩, by simp, by omega⟩
  rw [if_neg h3] at hd
  rw [if_neg (by omega)]
  by_cases h4 : x.op = 4
  · rw [if_pos h4] at hd; simp at hd; subst hd
    rw [if_pos h4]
    have hb := hx.two (by rw [h4]; rfl)
    have e : boundOp x.op cells = 8 := by rw [h4]; rfl
    exact ⟨_, _, _, rfl, ⟨⟨hF _ (by omega), hst⟩, hcl, hln⟩, by simp, by omega⟩
  rw [if_neg h4] at hd ⊢
  by_cases h5 : x.op = 5
  · rw [if_pos h5] at hd
    rw [if_pos h5]
    have hb := hx.two (by rw [h5]; rfl)
    have e : boundOp x.op cells = cells - 1 := by rw [h5]; rfl
    cases kst with
    | nil => simp at hd
    | cons t r =>
      simp at hd; subst hd
      obtain ⟨v, q, rfl, hv, hq⟩ := hst.cons
      refine ⟨_, _, _, rfl, ⟨hq, fun c hc => ?_, by simpa using hln⟩, by simp, by omega⟩
      simp only [] at hc ⊢
      by_cases he : x.n.toNat = c
      · subst he
        by_cases hkl : x.n.toNat < kcl.length
        · rw [getD_set_eq hkl, getD_set_eq (by omega)]; exact hv
        · exfalso; apply hc
          rw [List.getD_eq_getElem?_getD, List.getElem?_eq_none (by simpa using hkl)]; rfl
      · rw [getD_set_ne he] at hc ⊢
        rw [getD_set_ne he]; exact hcl c hc
  rw [if_neg h5] at hd ⊢
  by_cases h6 : x.op = 6
  · rw [if_pos h6] at hd
    rw [if_pos h6]
    by_cases hz : kcl.getD x.n.toNat 0 = 0
    · rw [if_pos hz] at hd; simp at hd
    · rw [if_neg hz] at hd; simp only [Option.some.injEq] at hd; subst hd
      exact ⟨_, _, _, rfl, ⟨⟨hcl _ hz, hst⟩, hcl, hln⟩, by simp, by omega⟩
  rw [if_neg h6] at hd ⊢
  have two : ∀ {a b c : Nat} {r : List Nat}, kst = a :: b :: r → k' = ⟨c :: r, kcl⟩ → (x.op = 7 ∨ x.op = 8 → c ≠ 2) → ∃ st' cl' j, (match st with
      | b :: a :: r => some (twoOp x.op a b :: r, cl, false)
      | _ => none) = some (st', cl', j) ∧ Fits k' cells st' cl' ∧ (j = true → x.op = 15 ∨ x.op = 16) := by
    intro a b c r e1 e2 hc
    subst e1; subst e2
    obtain ⟨v, q, rfl, hv, hq⟩ := hst.cons
    obtain ⟨u, q, rfl, hu, hq⟩ := hq.cons
    exact ⟨_, _, _, rfl, ⟨⟨two_hasT _ _ _ _ hc, hq⟩, hcl, hln⟩, by simp⟩
  have two' : ∀ {a b c : Nat} {r : List Nat}, x.op ≠ 12 → x.op ≠ 15 → x.op ≠ 16 → kst = a :: b :: r → k' = ⟨c :: r, kcl⟩ → (x.op = 7 ∨ x.op = 8 → c ≠ 2) → ∃ st' cl' j, (if x.op = 12 then (match st with
    | [] => none
    | v :: r => some ((1 - v) :: r, cl, false))
  else if x.op = 15 then (match st with
    | [] => none
    | v :: r => some (r, cl, v == 0))
  else if x.op = 16 then some (st, cl, true)
  else (match st with
    | b :: a :: r => some (twoOp x.op a b :: r, cl, false)
    | _ => none)) = some (st', cl', j) ∧ Fits k' cells st' cl' ∧ (j = true → x.op = 15 ∨ x.op = 16) ∧ (x.op = 16 → j = true) := by
    intro a b c r n1 n2 n3 e1 e2 hc
    rw [if_neg n1, if_neg n2, if_neg n3]
    obtain ⟨s', c', j, q1, q2, q3⟩ := two e1 e2 hc
    exact ⟨s', c', j, q1, q2, q3, fun e => absurd e n3⟩
  by_cases h7 : x.op = 7 ∨ x.op = 8
  · rw [if_pos h7] at hd
    obtain ⟨e1, e2⟩ := takes_st hd
    exact two' (by omega) (by omega) (by omega) e1 e2 (fun _ => by decide)
  rw [if_neg h7] at hd
  by_cases h9 : x.op = 9
  · rw [if_pos h9] at hd
    match kst, hd with
    | [], hd => simp at hd
    | [_], hd => simp at hd
    | a :: b :: r, hd =>
      simp only [] at hd
      by_cases he : a = b
      · rw [if_pos he] at hd; simp at hd
        exact two' (by omega) (by omega) (by omega) rfl hd.symm (fun e => absurd e h7)
      · rw [if_neg he] at hd; simp at hd
  rw [if_neg h9] at hd
  by_cases h10 : x.op = 10 ∨ x.op = 11
  · rw [if_pos h10] at hd
    obtain ⟨e1, e2⟩ := takes_st hd
    exact two' (by omega) (by omega) (by omega) e1 e2 (fun e => absurd e h7)
  rw [if_neg h10] at hd
  by_cases h12 : x.op = 12
  · rw [if_pos h12] at hd
    rw [if_pos h12]
    obtain ⟨e1, e2⟩ := takes_st hd
    simp only [] at e1 e2
    rw [e1] at hst
    subst e2
    obtain ⟨v, q, rfl, hv, hq⟩ := TypedS.cons hst
    have := hv.2 rfl
    refine ⟨_, _, _, rfl, ⟨⟨⟨by unfold In64; omega, fun _ => by omega⟩, hq⟩, hcl, hln⟩, by simp, by omega⟩
  rw [if_neg h12] at hd
  by_cases h13 : x.op = 13 ∨ x.op = 14
  · rw [if_pos h13] at hd
    obtain ⟨e1, e2⟩ := takes_st hd
    exact two' (by omega) (by omega) (by omega) e1 e2 (fun e => absurd e h7)
  rw [if_neg h13] at hd
  rw [if_neg h12]
  by_cases h15 : x.op = 15
  · rw [if_pos h15] at hd
    rw [if_pos h15]
    obtain ⟨e1, e2⟩ := takes_st hd
    simp only [] at e1 e2
    rw [e1] at hst
    subst e2
    obtain ⟨v, q, rfl, hv, hq⟩ := TypedS.cons hst
    exact ⟨_, _, _, rfl, ⟨hq, hcl, hln⟩, fun _ => .inl h15, by omega⟩
  rw [if_neg h15] at hd
  simp at hd; subst hd
  rw [if_neg h15, if_pos (by omega)]
  exact ⟨_, _, _, rfl, ⟨hst, hcl, hln⟩, fun _ => .inr (by omega), fun _ => rfl⟩

/-- The instruction behind a step. -/
theorem next_in {ins : List Ins} {i : Nat} {x : Ins} {j : Bool} (hj : j = true → x.op = 15 ∨ x.op = 16) (h16 : x.op = 16 → j = true) (h17 : ¬ (x.op = 17 ∨ x.op = 18)) : (if j then jumpTo ins x else (if i + 1 < ins.length then some (i + 1) else none)) ∈ leadsK ins i x := by
  unfold leadsK
  cases j with
  | true =>
    rcases hj rfl with h | h
    · rw [if_pos h]; simp
    · rw [if_neg (by omega), if_pos h]; simp
  | false =>
    have h1 : x.op ≠ 16 := fun e => by simpa using h16 e
    by_cases h : x.op = 15
    · rw [if_pos h]; simp
    · rw [if_neg h, if_neg h1, if_neg h17]; simp

theorem run_ok {b : List UInt8} {ins : List Ins} {depth cells : Nat} {fl : List Int} {C : Nat → Option Kn} (h : CodeOK b ins) (hc : byteAt b 2 = cells) (hF : FieldsT fl) (hG : Good ins depth 0 C) : ∀ (m i : Nat) (st cl : List Int) (n : Nat) (k : Kn), ins.length - i ≤ m → i < ins.length → C i = some k → Fits k cells st cl →
    ∃ a r s, runK ins fl m i st cl n = some (a, r, s) ∧ n < s ∧ s ≤ n + (ins.length - i) ∧ r ≤ 255 := by
  intro m
  induction m with
  | zero => intro i st cl n k h1 h2; omega
  | succ m ih =>
    intro i st cl n k hm hi hk hft
    rw [runK, if_pos hi]
    have hx := num_ok (h.each _ (getD_ins hi))
    rw [hc] at hx
    by_cases h17 : (ins.getD i noIns).op = 17 ∨ (ins.getD i noIns).op = 18
    · rw [if_pos h17]
      have h2 := hx.two (by rcases h17 with e | e <;> rw [e] <;> rfl)
      exact ⟨_, _, _, rfl, by omega, by omega, by omega⟩
    · rw [if_neg h17]
      obtain ⟨k', hd, hdp, hl⟩ := hG i (by omega) hi k hk
      obtain ⟨st', cl', j, hs, hft', hj, h16⟩ := step_fits hx hF hft hd h17
      rw [hs]
      have hnx := next_in (ins := ins) (i := i) hj h16 h17
      obtain ⟨q, e, h1, h2, h3⟩ := hl _ hnx
      obtain ⟨kq, e2, e3, e4⟩ := h3 k' rfl
      have hftq : Fits kq cells st' cl' := ⟨by rw [e3]; exact hft'.typ, hft'.cel.less e4, hft'.len⟩
      obtain ⟨a, r, s, i1, i2, i3, i4⟩ := ih q st' cl' (n + 1) kq (by omega) h2 e2 hftq
      cases j with
      | true =>
        have e : jumpTo ins (ins.getD i noIns) = some q := e
        simp only []
        rw [e]
        exact ⟨a, r, s, i1, by omega, by omega, i4⟩
      | false =>
        have e : (if i + 1 < ins.length then some (i + 1) else none) = some q := e
        split at e
        · simp at e; subst e
          exact ⟨a, r, s, i1, by omega, by omega, i4⟩
        · simp at e
theorem come0_len (cells n : Nat) (h : 0 < n) : (come0 cells n).length = n := by simp [come0]; omega
/-- What is known of a code that may be one. -/
theorem load_known {b : List UInt8} {ins : List Ins} (h : loadOf b = some ins) : 4 ≤ b.length ∧ b.length ≤ 4000 ∧ CodeOK b ins ∧ 0 < ins.length ∧ ins.length ≤ b.length ∧ byteAt b 1 ≤ 24 ∧ ∃ C : Nat → Option Kn, C 0 = some ⟨[], List.replicate (byteAt b 2) 0⟩ ∧ Good ins (byteAt b 1) 0 C := by
  unfold loadOf at h
  by_cases h1 : b.length < 4 ∨ 4000 < b.length ∨ byteAt b 0 ≠ 71 ∨ 24 < byteAt b 1
  · rw [if_pos h1] at h; simp at h
  rw [if_neg h1] at h
  cases hd : dec (b.length + 1) b 3 with
  | none => rw [hd] at h; simp at h
  | some q =>
    rw [hd] at h
    simp only [] at h
    by_cases hf : flowK q (byteAt b 1) q 0 (come0 (byteAt b 2) q.length) = true
    · rw [if_pos hf] at h; simp at h; subst h
      obtain ⟨d1, d2⟩ := dec_ok _ hd (by omega)
      have hc : CodeOK b q := ⟨d1, d2⟩
      have hle := (behind_le (fun x hx => (d1 x hx).size) d2).1
      have hpos : 0 < q.length := by
        cases q with
        | nil => unfold Behind at d2; omega
        | cons x r => simp
      obtain ⟨C, c1, c2, c3⟩ := flow_good hc (byteAt b 1) _ 0 (come0 (byteAt b 2) q.length) rfl (come0_len _ _ hpos) hf
      exact ⟨by omega, by omega, hc, hpos, by omega, by omega, C, (c1 0 (Nat.le_refl _)).trans rfl, c3⟩
    · rw [if_neg hf] at h; simp at h
/-- What the machine ends with. -/
def judgeOf (b : List UInt8) (ins : List Ins) (fl : List Int) : Option (Bool × Nat × Nat) := runK ins fl ins.length 0 [] (List.replicate (byteAt b 2) 0) 0
theorem judge_ok {b : List UInt8} {ins : List Ins} {fl : List Int} (h : loadOf b = some ins) (hF : FieldsT fl) : ∃ a r s, judgeOf b ins fl = some (a, r, s) ∧ 0 < s ∧ s ≤ b.length ∧ r ≤ 255 := by
  obtain ⟨h1, h2, h3, h4, h5, h6, C, h7, h8⟩ := load_known h
  obtain ⟨a, r, s, e, i1, i2, i3⟩ := run_ok h3 rfl hF h8 ins.length 0 [] (List.replicate (byteAt b 2) 0) 0 _ (by omega) h4 h7 ⟨trivial, fun c hc => by
    exfalso; apply hc
    simp [List.getD_eq_getElem?_getD, List.getElem?_replicate]
    split <;> rfl, by simp⟩
  exact ⟨a, r, s, e, i1, by omega, i3⟩
end Go.Proofs.YtfkdailfcmnjlaaGreatDoor

namespace Go.Proofs.YtfkdailfcmnjlaaGreatDoor
open Go Go.RowKit
set_option maxRecDepth 100000

theorem byte_app {b c : List UInt8} {i : Nat} (h : i < b.length) : byteAt (b ++ c) i = byteAt b i := by
  unfold byteAt; rw [List.getD_eq_getElem?_getD, List.getD_eq_getElem?_getD, List.getElem?_append_left h]
theorem dec_more {b : List UInt8} (f : Nat) : ∀ {a : Nat} {ins : List Ins}, dec f b a = some ins → a ≤ b.length → ∀ f', dec f' (b ++ [17]) a = none := by
  induction f with
  | zero => intro a ins h; simp [dec] at h
  | succ f ih =>
    intro a ins h ha f'
    cases f' with
    | zero => rfl
    | succ f' =>
      rw [dec] at h ⊢
      by_cases h1 : b.length ≤ a
      · have e : a = b.length := by omega
        subst e
        have e17 : byteAt (b ++ [17]) b.length = 17 := by unfold byteAt; simp [List.getD_eq_getElem?_getD]
        rw [if_neg (by simp), if_neg]
        rw [e17]
        intro hc
        have := hc.2.1
        simp [sizeOp] at this
      · rw [if_neg h1] at h
        rw [if_neg (by simp; omega), byte_app (by omega)]
        by_cases h2 : sizeOp (byteAt b a) ≠ 0 ∧ a + sizeOp (byteAt b a) ≤ b.length ∧ (sizeOp (byteAt b a) = 2 → (byteAt b (a + 1) : Int) ≤ boundOp (byteAt b a) (byteAt b 2))
        · rw [if_pos h2] at h
          cases hd : dec f b (a + sizeOp (byteAt b a)) with
          | none => rw [hd] at h; simp at h
          | some r =>
            have := ih hd h2.2.1 f'
            rw [this]
            split <;> rfl
        · rw [if_neg h2] at h; simp at h
theorem load_more {b : List UInt8} {ins : List Ins} (h : loadOf b = some ins) : loadOf (b ++ [17]) = none := by
  have h4 := (load_known h).1
  unfold loadOf at h ⊢
  split at h
  · simp at h
  · split
    · rfl
    · cases hd : dec (b.length + 1) b 3 with
      | none => rw [hd] at h; simp at h
      | some q => rw [dec_more _ hd (by omega)]
end Go.Proofs.YtfkdailfcmnjlaaGreatDoor

namespace Go.Proofs.YtfkdailfcmnjlaaGreatDoor
open Go Go.RowKit
set_option maxRecDepth 100000

/-- A condition as a tree: a word's kind, its number, which let it names; the parts under it. -/
structure Tr where
  k : Nat
  n : Int
  l : Int
  kids : List Tr
def noTr : Tr := ⟨0, 0, 0, []⟩
def Tr.kid (t : Tr) (j : Nat) : Tr := t.kids.getD j noTr
/-- The kinds of words that stand alone; that stand over two. -/
def leafK (k : Nat) : Prop := k = 1 ∨ k = 2 ∨ (20 ≤ k ∧ k ≤ 35)
def twoK (k : Nat) : Prop := k = 6 ∨ k = 7 ∨ k = 8 ∨ k = 9 ∨ k = 10 ∨ k = 17 ∨ k = 18
def ShapeT (t : Tr) : Prop := (leafK t.k ∧ t.kids = [] ∧ (t.k = 1 → In64 t.n) ∧ (t.k = 2 → 0 ≤ t.l)) ∨ (t.k = 19 ∧ ∃ a, t.kids = [a]) ∨ (t.k = 14 ∧ ∃ a b c, t.kids = [a, b, c]) ∨ (twoK t.k ∧ ∃ a b, t.kids = [a, b])
/-- A tree at most so deep. -/
def WfT : Nat → Tr → Prop
  | 0, _ => False
  | d + 1, t => ShapeT t ∧ ∀ c ∈ t.kids, WfT d c
/-- The type of a word; of a part, by those under it. -/
def wordTy (lt : List Nat) (t : Tr) : Nat := if t.k = 1 then 1 else if t.k = 2 then lt.getD t.l.toNat 0 else if 27 ≤ t.k then fieldTy (t.k - 27) else if 22 ≤ t.k then 3 else 2
def overTy (k : Nat) : List Nat → Nat
  | [a] => if a = 2 then 2 else 0
  | [a, b] => if k = 6 ∨ k = 7 then (if a = 1 ∧ b = 1 then 1 else 0) else if k = 9 ∨ k = 10 then (if a = 1 ∧ b = 1 then 2 else 0) else if k = 8 then (if a = b ∧ a ≠ 0 then 2 else 0) else (if a = 2 ∧ b = 2 then 2 else 0)
  | [a, b, c] => if a = 2 ∧ b = c then b else 0
  | _ => 0
def tyTr (lt : List Nat) : Nat → Tr → Nat
  | 0, _ => 0
  | d + 1, t => if t.kids = [] then wordTy lt t else overTy t.k (t.kids.map (tyTr lt d))
/-- What a word tells; what a part tells. -/
def kindV (fl : List Int) (k : Nat) : Int := if 27 ≤ k then fl.getD (k - 27) 0 else if 22 ≤ k then ((k - 22 : Nat) : Int) else truthI (decide (k = 20))
def wordT (lv fl : List Int) (t : Tr) : Int := if t.k = 1 then t.n else if t.k = 2 then lv.getD t.l.toNat 0 else kindV fl t.k
def two2 (k : Nat) (a b : Int) : Int :=
  if k = 6 then clampI (a + b) else if k = 7 then clampI (a - b) else if k = 8 then truthI (a == b) else if k = 10 then truthI (decide (a < b))
  else if k = 9 then truthI (decide (a ≤ b)) else if k = 18 then truthI (a == 1 && b == 1) else truthI (a == 1 || b == 1)
def overT (k : Nat) (w : Int) : List Int → Int
  | [] => w
  | [a] => 1 - a
  | [a, b] => two2 k a b
  | a :: b :: c :: _ => if a = 1 then b else c
def evT (lv fl : List Int) : Nat → Tr → Int
  | 0, _ => 0
  | d + 1, t => overT t.k (wordT lv fl t) (t.kids.map (evT lv fl d))
/-- How many parts. -/
def cntT : Nat → Tr → Nat
  | 0, _ => 0
  | d + 1, t => 1 + (t.kids.map (cntT d)).sum

theorem WfT.up {d : Nat} : ∀ {t : Tr}, WfT d t → ∀ {e : Nat}, d ≤ e → WfT e t := by
  induction d with
  | zero => intro t h; exact h.elim
  | succ d ih =>
    intro t h e he
    obtain ⟨e, rfl⟩ : ∃ q, e = q + 1 := ⟨e - 1, by omega⟩
    exact ⟨h.1, fun c hc => ih (h.2 c hc) (by omega)⟩
theorem evT_up {lv fl : List Int} {d : Nat} : ∀ {t : Tr}, WfT d t → ∀ {e : Nat}, d ≤ e → evT lv fl e t = evT lv fl d t := by
  induction d with
  | zero => intro t h; exact h.elim
  | succ d ih =>
    intro t h e he
    obtain ⟨e, rfl⟩ : ∃ q, e = q + 1 := ⟨e - 1, by omega⟩
    rw [evT, evT, List.map_congr_left fun c hc => ih (h.2 c hc) (by omega)]
theorem tyTr_up {lt : List Nat} {d : Nat} : ∀ {t : Tr}, WfT d t → ∀ {e : Nat}, d ≤ e → tyTr lt e t = tyTr lt d t := by
  induction d with
  | zero => intro t h; exact h.elim
  | succ d ih =>
    intro t h e he
    obtain ⟨e, rfl⟩ : ∃ q, e = q + 1 := ⟨e - 1, by omega⟩
    rw [tyTr, tyTr, List.map_congr_left fun c hc => ih (h.2 c hc) (by omega)]
theorem cntT_up {d : Nat} : ∀ {t : Tr}, WfT d t → ∀ {e : Nat}, d ≤ e → cntT e t = cntT d t := by
  induction d with
  | zero => intro t h; exact h.elim
  | succ d ih =>
    intro t h e he
    obtain ⟨e, rfl⟩ : ∃ q, e = q + 1 := ⟨e - 1, by omega⟩
    rw [cntT, cntT, List.map_congr_left fun c hc => ih (h.2 c hc) (by omega)]
theorem two2_has (k t : Nat) (a b : Int) (h : k = 6 ∨ k = 7 → t ≠ 2) : HasT t (two2 k a b) := by
  unfold two2
  by_cases h7 : k = 6
  · rw [if_pos h7]; exact ⟨clamp_in _, fun e => absurd e (h (.inl h7))⟩
  rw [if_neg h7]
  by_cases h8 : k = 7
  · rw [if_pos h8]; exact ⟨clamp_in _, fun e => absurd e (h (.inr h8))⟩
  rw [if_neg h8]
  (repeat' split) <;> exact hasT_truth _ _
/-- The lets' values have their types. -/
def LetsT (lt : List Nat) (lv : List Int) : Prop := ∀ i, lt.getD i 0 ≠ 0 → HasT (lt.getD i 0) (lv.getD i 0)
theorem word_hasT {lt : List Nat} {lv fl : List Int} (hV : LetsT lt lv) (hF : FieldsT fl) {t : Tr} (hs : leafK t.k) (hn : t.k = 1 → In64 t.n) (hty : wordTy lt t ≠ 0) : HasT (wordTy lt t) (wordT lv fl t) := by
  unfold wordTy wordT kindV at *
  by_cases h1 : t.k = 1
  · rw [if_pos h1, if_pos h1]; exact ⟨hn h1, fun e => by simp at e⟩
  rw [if_neg h1] at hty ⊢
  rw [if_neg h1]
  by_cases h2 : t.k = 2
  · rw [if_pos h2] at hty ⊢
    rw [if_pos h2]; exact hV _ hty
  rw [if_neg h2, if_neg h2]
  by_cases h3 : 27 ≤ t.k
  · rw [if_pos h3, if_pos h3]
    unfold leafK at hs
    exact hF _ (by omega)
  rw [if_neg h3, if_neg h3]
  by_cases h4 : 22 ≤ t.k
  · rw [if_pos h4, if_pos h4]
    exact ⟨by unfold In64; omega, fun e => by simp at e⟩
  rw [if_neg h4, if_neg h4]; exact hasT_truth _ _
/-- A tree of a type tells a value of it. -/
theorem ev_has {lt : List Nat} {lv fl : List Int} (hV : LetsT lt lv) (hF : FieldsT fl) {d : Nat} : ∀ {t : Tr}, WfT d t → tyTr lt d t ≠ 0 → HasT (tyTr lt d t) (evT lv fl d t) := by
  induction d with
  | zero => intro t h; exact h.elim
  | succ d ih =>
    intro t h hty
    rw [tyTr] at hty ⊢
    rw [evT]
    rcases h.1 with ⟨hk, hs, hn, _⟩ | ⟨hk, a, hs⟩ | ⟨hk, a, b, c, hs⟩ | ⟨hk, a, b, hs⟩
    · rw [if_pos hs] at hty ⊢
      rw [hs]; exact word_hasT hV hF hk hn hty
    · rw [hs] at hty ⊢
      rw [if_neg (by simp)] at hty ⊢
      simp only [List.map_cons, List.map_nil, overTy, overT] at hty ⊢
      split at hty
      · rename_i h2
        rw [if_pos h2]
        have := (ih (h.2 a (by rw [hs]; simp)) (by omega)).2 h2
        exact ⟨by unfold In64; omega, fun _ => by omega⟩
      · exact absurd rfl hty
    · rw [hs] at hty ⊢
      rw [if_neg (by simp)] at hty ⊢
      simp only [List.map_cons, List.map_nil, overTy, overT] at hty ⊢
      split at hty
      · rename_i h2
        rw [if_pos h2]
        split
        · exact ih (h.2 b (by rw [hs]; simp)) hty
        · rw [h2.2] at hty ⊢; exact ih (h.2 c (by rw [hs]; simp)) hty
      · exact absurd rfl hty
    · rw [hs] at hty ⊢
      rw [if_neg (by simp)] at hty ⊢
      simp only [List.map_cons, List.map_nil, overTy, overT] at hty ⊢
      refine two2_has _ _ _ _ fun h6 => ?_
      rw [if_pos h6]; split <;> decide

/-- Which passes are done. -/
structure Pass where
  inl : Bool
  fol : Bool
  pru : Bool
  jmp : Bool
/-- Does it hang on the event? -/
def hangsT : Nat → Tr → Bool
  | 0, _ => true
  | d + 1, t => decide (27 ≤ t.k ∧ t.k ≤ 35) || decide (t.k = 2) || t.kids.any (hangsT d)
def inlineT (lets : List Tr) (c : Tr) : Tr := if c.k = 2 ∧ (lets.getD c.l.toNat noTr).kids = [] then lets.getD c.l.toNat noTr else c
def chosenT (c : Tr) : Tr := if (c.kid 0).k = 20 then c.kid 1 else if (c.kid 0).k = 21 then c.kid 2 else c
def zeros9 : List Int := [0, 0, 0, 0, 0, 0, 0, 0, 0]
def foldT (d : Nat) (c : Tr) : Tr :=
  if c.k = 14 then chosenT c else if hangsT d c = true ∨ c.kids = [] then c
  else if c.k = 6 ∨ c.k = 7 then ⟨1, evT [] zeros9 d c, 0, []⟩ else if evT [] zeros9 d c = 1 then ⟨20, 0, 0, []⟩ else ⟨21, 0, 0, []⟩
def decidedT (c : Tr) (s i : Nat) : Tr := if (c.kid 0).k = s ∨ (c.kid 1).k = i then c.kid 0 else if (c.kid 1).k = s ∨ (c.kid 0).k = i then c.kid 1 else c
def pruneT (c : Tr) : Tr :=
  if c.k = 19 then (if (c.kid 0).k = 19 then (c.kid 0).kid 0 else c) else if c.k = 18 then decidedT c 21 20 else if c.k = 17 then decidedT c 20 21 else c
/-- All passes at a part whose parts are rewritten. -/
def passT (p : Pass) (lets : List Tr) (d : Nat) (c : Tr) : Tr :=
  let c := if p.inl then inlineT lets c else c
  let c := if p.fol then foldT d c else c
  if p.pru then pruneT c else c
def rwT (p : Pass) (lets : List Tr) : Nat → Tr → Tr
  | 0, t => t
  | d + 1, t => passT p lets (d + 1) ⟨t.k, t.n, t.l, t.kids.map (rwT p lets d)⟩

/-- What is known of the lets ahead: inlined, or laid. -/
structure LetsOK (p : Pass) (lets : List Tr) (lt lt' : List Nat) (lv lv' fl : List Int) : Prop where
  one : ∀ i, lt.getD i 0 ≠ 0 → p.inl = true → (lets.getD i noTr).kids = [] → WfT 1 (lets.getD i noTr) ∧ tyTr lt' 1 (lets.getD i noTr) = lt.getD i 0 ∧ evT lv' fl 1 (lets.getD i noTr) = lv.getD i 0
  same : ∀ i, lt.getD i 0 ≠ 0 → ¬ (p.inl = true ∧ (lets.getD i noTr).kids = []) → lt'.getD i 0 = lt.getD i 0 ∧ lv'.getD i 0 = lv.getD i 0
/-- One tree is as good as another. -/
structure Alike (lt lt' : List Nat) (lv lv' fl : List Int) (d : Nat) (t t' : Tr) : Prop where
  wf : WfT d t'
  ty : tyTr lt' d t' = tyTr lt d t
  ev : evT lv' fl d t' = evT lv fl d t
  cnt : cntT d t' ≤ cntT d t

theorem cnt_pos {d : Nat} {t : Tr} (h : WfT d t) : 1 ≤ cntT d t := by
  cases d with
  | zero => exact h.elim
  | succ d => rw [cntT]; omega
theorem fixed_ev {lv lv' fl fl' : List Int} {d : Nat} : ∀ {t : Tr}, WfT d t → hangsT d t = false → evT lv fl d t = evT lv' fl' d t := by
  induction d with
  | zero => intro t h; exact h.elim
  | succ d ih =>
    intro t h hh
    rw [hangsT] at hh
    simp only [Bool.or_eq_false_iff, decide_eq_false_iff_not] at hh
    rw [evT, evT, List.map_congr_left fun c hc => ih (h.2 c hc) (by
      have := hh.2
      rw [List.any_eq_false] at this
      have := this c hc
      simpa using this)]
    congr 1
    have h27 : ¬ 27 ≤ t.k := fun h27 => hh.1.1 ⟨h27, by
      rcases h.1 with ⟨hk, _⟩ | ⟨hk, _⟩ | ⟨hk, _⟩ | ⟨hk, _⟩
      · unfold leafK at hk; omega
      · omega
      · omega
      · unfold twoK at hk; omega⟩
    unfold wordT kindV
    rw [if_neg hh.1.2, if_neg hh.1.2, if_neg h27, if_neg h27]
end Go.Proofs.YtfkdailfcmnjlaaGreatDoor

namespace Go.Proofs.YtfkdailfcmnjlaaGreatDoor
open Go Go.RowKit
set_option maxRecDepth 100000

theorem Alike.refl {lt : List Nat} {lv fl : List Int} {d : Nat} {t : Tr} (h : WfT d t) : Alike lt lt lv lv fl d t t := ⟨h, rfl, rfl, Nat.le_refl _⟩
theorem Alike.trans {lt lt' lt'' : List Nat} {lv lv' lv'' fl : List Int} {d : Nat} {t u v : Tr} (h1 : Alike lt lt' lv lv' fl d t u) (h2 : Alike lt' lt'' lv' lv'' fl d u v) : Alike lt lt'' lv lv'' fl d t v :=
  ⟨h2.wf, h2.ty.trans h1.ty, h2.ev.trans h1.ev, Nat.le_trans h2.cnt h1.cnt⟩
theorem wf_leaf {d : Nat} {t : Tr} (h : WfT d t) (hk : leafK t.k) : t.kids = [] := by
  cases d with
  | zero => exact h.elim
  | succ d =>
    unfold leafK at hk
    rcases h.1 with ⟨_, h1, _⟩ | ⟨h1, _⟩ | ⟨h1, _⟩ | ⟨h1, _⟩
    · exact h1
    · omega
    · omega
    · unfold twoK at h1; omega
theorem ev_true {lv fl : List Int} {d : Nat} {t : Tr} (h : WfT d t) (hk : t.k = 20) : evT lv fl d t = 1 := by
  cases d with
  | zero => exact h.elim
  | succ d =>
    have hs := wf_leaf h (by unfold leafK; omega)
    rw [evT, hs]
    show wordT lv fl t = 1
    unfold wordT kindV
    rw [hk]; rfl
theorem ev_false {lv fl : List Int} {d : Nat} {t : Tr} (h : WfT d t) (hk : t.k = 21) : evT lv fl d t = 0 := by
  cases d with
  | zero => exact h.elim
  | succ d =>
    have hs := wf_leaf h (by unfold leafK; omega)
    rw [evT, hs]
    show wordT lv fl t = 0
    unfold wordT kindV
    rw [hk]; rfl
theorem mem_le_sum {n : Nat} : ∀ {l : List Nat}, n ∈ l → n ≤ l.sum
  | [], h => by simp at h
  | x :: l, h => by
    rcases List.mem_cons.1 h with rfl | h
    · simp
    · have := mem_le_sum h; simp only [List.sum_cons]; omega
/-- A part under another, in its place. -/
theorem kid_alike {lt : List Nat} {lv fl : List Int} {d : Nat} {t a : Tr} (h : WfT (d + 1) t) (ha : a ∈ t.kids) (hty : tyTr lt (d + 1) t = tyTr lt d a) (hev : evT lv fl (d + 1) t = evT lv fl d a) : Alike lt lt lv lv fl (d + 1) t a := by
  have hw := h.2 a ha
  refine ⟨hw.up (by omega), by rw [tyTr_up hw (by omega), hty], by rw [evT_up hw (by omega), hev], ?_⟩
  rw [cntT_up hw (by omega), cntT]
  have : cntT d a ≤ (t.kids.map (cntT d)).sum := mem_le_sum (List.mem_map_of_mem ha)
  omega
theorem ty_two {lt : List Nat} {d : Nat} {t a b : Tr} (hs : t.kids = [a, b]) : tyTr lt (d + 1) t = overTy t.k [tyTr lt d a, tyTr lt d b] := by
  rw [tyTr, hs, if_neg (by simp)]; rfl
theorem ev_two {lv fl : List Int} {d : Nat} {t a b : Tr} (hs : t.kids = [a, b]) : evT lv fl (d + 1) t = two2 t.k (evT lv fl d a) (evT lv fl d b) := by
  rw [evT, hs]; rfl
theorem truth_one {v : Int} (h : v = 0 ∨ v = 1) : truthI (v == 1) = v := by
  rcases h with rfl | rfl <;> rfl
theorem decided_alike {lt : List Nat} {lv fl : List Int} (hV : LetsT lt lv) (hF : FieldsT fl) {d : Nat} {t : Tr} (h : WfT (d + 1) t) (hty : tyTr lt (d + 1) t ≠ 0) (hk : t.k = 17 ∨ t.k = 18) : Alike lt lt lv lv fl (d + 1) t (if t.k = 18 then decidedT t 21 20 else decidedT t 20 21) := by
  obtain ⟨a, b, hs⟩ : ∃ a b, t.kids = [a, b] := by
    rcases h.1 with ⟨h1, _⟩ | ⟨h1, _⟩ | ⟨h1, _⟩ | ⟨_, h1⟩
    · unfold leafK at h1; omega
    · omega
    · omega
    · exact h1
  have hwa := h.2 a (by rw [hs]; simp)
  have hwb := h.2 b (by rw [hs]; simp)
  have e0 : t.kid 0 = a := by unfold Tr.kid; rw [hs]; rfl
  have e1 : t.kid 1 = b := by unfold Tr.kid; rw [hs]; rfl
  have ht2 := ty_two (lt := lt) (d := d) hs
  have hev := ev_two (lv := lv) (fl := fl) (d := d) hs
  have hov : ∀ x y, overTy t.k [x, y] = if x = 2 ∧ y = 2 then 2 else 0 := fun x y => by
    simp only [overTy]
    rw [if_neg (by omega), if_neg (by omega), if_neg (by omega)]
  rw [ht2, hov] at hty
  split at hty
  · rename_i h22
    have hva := (ev_has hV hF hwa (by omega)).2 h22.1
    have hvb := (ev_has hV hF hwb (by omega)).2 h22.2
    have ta : tyTr lt (d + 1) t = tyTr lt d a := by rw [ht2, hov, if_pos h22, h22.1]
    have tb : tyTr lt (d + 1) t = tyTr lt d b := by rw [ht2, hov, if_pos h22, h22.2]
    have ka := fun e => kid_alike (lv := lv) (fl := fl) h (a := a) (by rw [hs]; simp) ta e
    have kb := fun e => kid_alike (lv := lv) (fl := fl) h (a := b) (by rw [hs]; simp) tb e
    unfold decidedT
    rw [e0, e1]
    by_cases h18 : t.k = 18
    · rw [if_pos h18]
      have hand : evT lv fl (d + 1) t = truthI (evT lv fl d a == 1 && evT lv fl d b == 1) := by rw [hev]; unfold two2; rw [h18]; rfl
      split
      · rename_i hc
        refine ka ?_
        rw [hand]
        rcases hc with hc | hc
        · rw [ev_false hwa hc]; rfl
        · rw [ev_true hwb hc]; rcases hva with e | e <;> rw [e] <;> rfl
      · split
        · rename_i hc
          refine kb ?_
          rw [hand]
          rcases hc with hc | hc
          · rw [ev_false hwb hc]; rcases hva with e | e <;> rw [e] <;> rfl
          · rw [ev_true hwa hc]; rcases hvb with e | e <;> rw [e] <;> rfl
        · exact Alike.refl h
    · have h17 : t.k = 17 := by omega
      rw [if_neg h18]
      have hor : evT lv fl (d + 1) t = truthI (evT lv fl d a == 1 || evT lv fl d b == 1) := by rw [hev]; unfold two2; rw [h17]; rfl
      split
      · rename_i hc
        refine ka ?_
        rw [hor]
        rcases hc with hc | hc
        · rw [ev_true hwa hc]; rfl
        · rw [ev_false hwb hc]; rcases hva with e | e <;> rw [e] <;> rfl
      · split
        · rename_i hc
          refine kb ?_
          rw [hor]
          rcases hc with hc | hc
          · rw [ev_true hwb hc]; rcases hva with e | e <;> rw [e] <;> rfl
          · rw [ev_false hwa hc]; rcases hvb with e | e <;> rw [e] <;> rfl
        · exact Alike.refl h
  · exact absurd rfl hty
theorem prune_alike {lt : List Nat} {lv fl : List Int} (hV : LetsT lt lv) (hF : FieldsT fl) {d : Nat} {t : Tr} (h : WfT (d + 1) t) (hty : tyTr lt (d + 1) t ≠ 0) : Alike lt lt lv lv fl (d + 1) t (pruneT t) := by
  unfold pruneT
  by_cases h19 : t.k = 19
  · rw [if_pos h19]
    obtain ⟨a, hs⟩ : ∃ a, t.kids = [a] := by
      rcases h.1 with ⟨h1, _⟩ | ⟨_, h1⟩ | ⟨h1, _⟩ | ⟨h1, _⟩
      · unfold leafK at h1; omega
      · exact h1
      · omega
      · unfold twoK at h1; omega
    have hwa := h.2 a (by rw [hs]; simp)
    have e0 : t.kid 0 = a := by unfold Tr.kid; rw [hs]; rfl
    rw [e0]
    by_cases ha : a.k = 19
    · rw [if_pos ha]
      cases d with
      | zero => exact hwa.elim
      | succ d =>
        obtain ⟨b, hsb⟩ : ∃ b, a.kids = [b] := by
          rcases hwa.1 with ⟨h1, _⟩ | ⟨_, h1⟩ | ⟨h1, _⟩ | ⟨h1, _⟩
          · unfold leafK at h1; omega
          · exact h1
          · omega
          · unfold twoK at h1; omega
        have hwb := hwa.2 b (by rw [hsb]; simp)
        have e1 : a.kid 0 = b := by unfold Tr.kid; rw [hsb]; rfl
        rw [e1]
        have t1 : tyTr lt (d + 1 + 1) t = if tyTr lt (d + 1) a = 2 then 2 else 0 := by rw [tyTr, hs, if_neg (by simp)]; rfl
        have t2 : tyTr lt (d + 1) a = if tyTr lt d b = 2 then 2 else 0 := by rw [tyTr, hsb, if_neg (by simp)]; rfl
        have v1 : evT lv fl (d + 1 + 1) t = 1 - evT lv fl (d + 1) a := by rw [evT, hs]; rfl
        have v2 : evT lv fl (d + 1) a = 1 - evT lv fl d b := by rw [evT, hsb]; rfl
        have hb2 : tyTr lt d b = 2 := by
          rw [t1, t2] at hty
          by_cases e : tyTr lt d b = 2
          · exact e
          · rw [if_neg e] at hty; simp at hty
        refine ⟨hwb.up (by omega), ?_, ?_, ?_⟩
        · rw [tyTr_up hwb (by omega), t1, t2, hb2]; rfl
        · rw [evT_up hwb (by omega), v1, v2]; omega
        · rw [cntT_up hwb (by omega), cntT, hs]
          simp only [List.map_cons, List.map_nil, List.sum_cons, List.sum_nil]
          rw [cntT, hsb]
          simp only [List.map_cons, List.map_nil, List.sum_cons, List.sum_nil]
          omega
    · rw [if_neg ha]; exact Alike.refl h
  rw [if_neg h19]
  by_cases h18 : t.k = 18
  · rw [if_pos h18]
    have := decided_alike hV hF h hty (.inr h18)
    rw [if_pos h18] at this; exact this
  rw [if_neg h18]
  by_cases h17 : t.k = 17
  · rw [if_pos h17]
    have := decided_alike hV hF h hty (.inl h17)
    rw [if_neg h18] at this; exact this
  rw [if_neg h17]; exact Alike.refl h

theorem chosen_alike {lt : List Nat} {lv fl : List Int} {d : Nat} {t : Tr} (h : WfT (d + 1) t) (hty : tyTr lt (d + 1) t ≠ 0) (h14 : t.k = 14) : Alike lt lt lv lv fl (d + 1) t (chosenT t) := by
  obtain ⟨a, b, c, hs⟩ : ∃ a b c, t.kids = [a, b, c] := by
    rcases h.1 with ⟨h1, _⟩ | ⟨h1, _⟩ | ⟨_, h1⟩ | ⟨h1, _⟩
    · unfold leafK at h1; omega
    · omega
    · exact h1
    · unfold twoK at h1; omega
  have hwa := h.2 a (by rw [hs]; simp)
  have e0 : t.kid 0 = a := by unfold Tr.kid; rw [hs]; rfl
  have e1 : t.kid 1 = b := by unfold Tr.kid; rw [hs]; rfl
  have e2 : t.kid 2 = c := by unfold Tr.kid; rw [hs]; rfl
  have t1 : tyTr lt (d + 1) t = if tyTr lt d a = 2 ∧ tyTr lt d b = tyTr lt d c then tyTr lt d b else 0 := by rw [tyTr, hs, if_neg (by simp)]; rfl
  have v1 : evT lv fl (d + 1) t = if evT lv fl d a = 1 then evT lv fl d b else evT lv fl d c := by rw [evT, hs]; rfl
  unfold chosenT
  rw [e0, e1, e2]
  rw [t1] at hty
  split at hty
  · rename_i hc
    rw [if_pos hc] at t1
    by_cases h20 : a.k = 20
    · rw [if_pos h20]
      exact kid_alike h (by rw [hs]; simp) t1 (by rw [v1, ev_true hwa h20, if_pos rfl])
    rw [if_neg h20]
    by_cases h21 : a.k = 21
    · rw [if_pos h21]
      exact kid_alike h (by rw [hs]; simp) (by rw [t1, hc.2]) (by rw [v1, ev_false hwa h21, if_neg (by decide)])
    rw [if_neg h21]; exact Alike.refl h
  · exact absurd rfl hty
theorem leaf_wf {d k : Nat} {n : Int} (hk : leafK k) (h1 : k = 1 → In64 n) (h2 : k ≠ 2) : WfT (d + 1) ⟨k, n, 0, []⟩ := ⟨.inl ⟨hk, rfl, h1, fun e => absurd e h2⟩, by simp⟩
theorem zeros_fields : FieldsT zeros9 := fun n hn => by
  have e : zeros9.getD n 0 = 0 := by
    have : n = 0 ∨ n = 1 ∨ n = 2 ∨ n = 3 ∨ n = 4 ∨ n = 5 ∨ n = 6 ∨ n = 7 ∨ n = 8 := by omega
    rcases this with rfl | rfl | rfl | rfl | rfl | rfl | rfl | rfl | rfl <;> rfl
  rw [e]; exact ⟨by unfold In64; omega, fun _ => .inl rfl⟩
theorem fold_alike {lt : List Nat} {lv fl : List Int} (hV : LetsT lt lv) (hF : FieldsT fl) {d : Nat} {t : Tr} (h : WfT (d + 1) t) (hty : tyTr lt (d + 1) t ≠ 0) : Alike lt lt lv lv fl (d + 1) t (foldT (d + 1) t) := by
  unfold foldT
  by_cases h14 : t.k = 14
  · rw [if_pos h14]; exact chosen_alike h hty h14
  rw [if_neg h14]
  by_cases hc : hangsT (d + 1) t = true ∨ t.kids = []
  · rw [if_pos hc]; exact Alike.refl h
  rw [if_neg hc]
  have hh : hangsT (d + 1) t = false := by
    cases e : hangsT (d + 1) t with
    | true => exact absurd (.inl e) hc
    | false => rfl
  have hne : t.kids ≠ [] := fun e => hc (.inr e)
  have hev : evT lv fl (d + 1) t = evT [] zeros9 (d + 1) t := fixed_ev h hh
  have hhas := ev_has hV hF h hty
  have hp := cnt_pos h
  rw [← hev]
  by_cases h6 : t.k = 6 ∨ t.k = 7
  · rw [if_pos h6]
    have ht : tyTr lt (d + 1) t = 1 := by
      rcases h.1 with ⟨h1, _⟩ | ⟨h1, _⟩ | ⟨h1, _⟩ | ⟨_, a, b, hs⟩
      · unfold leafK at h1; omega
      · omega
      · omega
      · rw [ty_two hs] at hty ⊢
        simp only [overTy] at hty ⊢
        rw [if_pos h6] at hty ⊢
        split at hty
        · rename_i hc; rw [if_pos hc]
        · exact absurd rfl hty
    refine ⟨leaf_wf (.inl rfl) (fun _ => hhas.1) (by decide), ?_, ?_, ?_⟩
    · rw [ht]; rfl
    · rfl
    · simp [cntT]
  rw [if_neg h6]
  have ht : tyTr lt (d + 1) t = 2 := by
    rcases h.1 with ⟨_, h1, _⟩ | ⟨_, a, hs⟩ | ⟨h1, _⟩ | ⟨hk, a, b, hs⟩
    · exact absurd h1 hne
    · rw [tyTr, hs, if_neg (by simp)] at hty ⊢
      simp only [List.map_cons, List.map_nil, overTy] at hty ⊢
      split at hty
      · rename_i hc; rw [if_pos hc]
      · exact absurd rfl hty
    · omega
    · rw [ty_two hs] at hty ⊢
      simp only [overTy] at hty ⊢
      rw [if_neg h6] at hty ⊢
      split at hty
      · rename_i h9
        rw [if_pos h9]
        split at hty
        · rename_i hc; rw [if_pos hc]
        · exact absurd rfl hty
      · rename_i h9
        rw [if_neg h9]
        split at hty
        · rename_i h8
          rw [if_pos h8]
          split at hty
          · rename_i hc; rw [if_pos hc]
          · exact absurd rfl hty
        · rename_i h8
          rw [if_neg h8]
          split at hty
          · rename_i hc; rw [if_pos hc]
          · exact absurd rfl hty
  have h01 := hhas.2 ht
  by_cases h1 : evT lv fl (d + 1) t = 1
  · rw [if_pos h1]
    refine ⟨leaf_wf (.inr (.inr (by omega))) (fun e => by omega) (by decide), ?_, ?_, ?_⟩
    · rw [ht]; rfl
    · rw [h1]; rfl
    · simp [cntT]
  · rw [if_neg h1]
    refine ⟨leaf_wf (.inr (.inr (by omega))) (fun e => by omega) (by decide), ?_, ?_, ?_⟩
    · rw [ht]; rfl
    · have : evT lv fl (d + 1) t = 0 := by omega
      rw [this]; rfl
    · simp [cntT]

theorem sum_le_map {α : Type} {f g : α → Nat} : ∀ {l : List α}, (∀ x ∈ l, f x ≤ g x) → (l.map f).sum ≤ (l.map g).sum
  | [], _ => Nat.le_refl _
  | x :: l, h => by
    have h1 := h x (by simp)
    have h2 := sum_le_map (l := l) (f := f) (g := g) fun y hy => h y (by simp [hy])
    simp only [List.map_cons, List.sum_cons]; omega
theorem kids_ty {lt : List Nat} {d : Nat} {t : Tr} (h : WfT (d + 1) t) (hty : tyTr lt (d + 1) t ≠ 0) : ∀ c ∈ t.kids, tyTr lt d c ≠ 0 := by
  rcases h.1 with ⟨_, h1, _⟩ | ⟨_, a, hs⟩ | ⟨_, a, b, c, hs⟩ | ⟨hk, a, b, hs⟩
  · rw [h1]; simp
  · rw [tyTr, hs, if_neg (by simp)] at hty
    simp only [List.map_cons, List.map_nil, overTy] at hty
    intro x hx
    rw [hs] at hx; simp at hx; subst hx
    split at hty
    · omega
    · exact absurd rfl hty
  · rw [tyTr, hs, if_neg (by simp)] at hty
    simp only [List.map_cons, List.map_nil, overTy] at hty
    intro x hx
    rw [hs] at hx; simp at hx
    split at hty
    · rename_i hc
      rcases hx with rfl | rfl | rfl
      · omega
      · exact hty
      · rw [← hc.2]; exact hty
    · exact absurd rfl hty
  · rw [ty_two hs] at hty
    simp only [overTy] at hty
    intro x hx
    rw [hs] at hx; simp at hx
    split at hty
    · split at hty
      · rcases hx with rfl | rfl <;> omega
      · exact absurd rfl hty
    · split at hty
      · split at hty
        · rcases hx with rfl | rfl <;> omega
        · exact absurd rfl hty
      · split at hty
        · split at hty
          · rename_i hc; rcases hx with rfl | rfl
            · exact hc.2
            · rw [← hc.1]; exact hc.2
          · exact absurd rfl hty
        · split at hty
          · rcases hx with rfl | rfl <;> omega
          · exact absurd rfl hty
/-- Rewriting leaves a condition as good as it was. -/
theorem rw_alike {p : Pass} {lets : List Tr} {lt lt' : List Nat} {lv lv' fl : List Int} (hL : LetsOK p lets lt lt' lv lv' fl) (hV : LetsT lt' lv') (hF : FieldsT fl) {d : Nat} : ∀ {t : Tr}, WfT d t → tyTr lt d t ≠ 0 → Alike lt lt' lv lv' fl d t (rwT p lets d t) := by
  induction d with
  | zero => intro t h; exact h.elim
  | succ d ih =>
    intro t h hty
    rw [rwT]
    have hkt := kids_ty h hty
    have hkid : ∀ c ∈ t.kids, Alike lt lt' lv lv' fl d c (rwT p lets d c) := fun c hc => ih (h.2 c hc) (hkt c hc)
    have hmt : (t.kids.map (rwT p lets d)).map (tyTr lt' d) = t.kids.map (tyTr lt d) := by
      rw [List.map_map]; exact List.map_congr_left fun c hc => (hkid c hc).ty
    have hmv : (t.kids.map (rwT p lets d)).map (evT lv' fl d) = t.kids.map (evT lv fl d) := by
      rw [List.map_map]; exact List.map_congr_left fun c hc => (hkid c hc).ev
    have hw0 : WfT (d + 1) ⟨t.k, t.n, t.l, t.kids.map (rwT p lets d)⟩ := by
      refine ⟨?_, fun c hc => ?_⟩
      · rcases h.1 with ⟨h1, h2, h3, h4⟩ | ⟨h1, a, h2⟩ | ⟨h1, a, b, c, h2⟩ | ⟨h1, a, b, h2⟩
        · exact .inl ⟨h1, by rw [h2]; rfl, h3, h4⟩
        · exact .inr (.inl ⟨h1, _, by rw [h2]; rfl⟩)
        · exact .inr (.inr (.inl ⟨h1, _, _, _, by rw [h2]; rfl⟩))
        · exact .inr (.inr (.inr ⟨h1, _, _, by rw [h2]; rfl⟩))
      · obtain ⟨x, hx, rfl⟩ := List.mem_map.1 hc
        exact (hkid x hx).wf
    have hc0 : cntT (d + 1) ⟨t.k, t.n, t.l, t.kids.map (rwT p lets d)⟩ ≤ cntT (d + 1) t := by
      rw [cntT, cntT]
      simp only [List.map_map]
      have := sum_le_map (l := t.kids) (f := cntT d ∘ rwT p lets d) (g := cntT d) fun c hc => (hkid c hc).cnt
      omega
    have base : (t.k = 2 → lt'.getD t.l.toNat 0 = lt.getD t.l.toNat 0 ∧ lv'.getD t.l.toNat 0 = lv.getD t.l.toNat 0) → Alike lt lt' lv lv' fl (d + 1) t ⟨t.k, t.n, t.l, t.kids.map (rwT p lets d)⟩ := fun hl => by
      refine ⟨hw0, ?_, ?_, hc0⟩
      · rw [tyTr, tyTr]
        simp only [hmt, List.map_eq_nil_iff]
        have e : wordTy lt' ⟨t.k, t.n, t.l, t.kids.map (rwT p lets d)⟩ = wordTy lt t := by
          unfold wordTy
          simp only []
          by_cases h1 : t.k = 1
          · rw [if_pos h1, if_pos h1]
          · rw [if_neg h1, if_neg h1]
            by_cases h2 : t.k = 2
            · rw [if_pos h2, if_pos h2, (hl h2).1]
            · rw [if_neg h2, if_neg h2]
        rw [e]
      rw [evT, evT]
      simp only [hmv]
      congr 1
      unfold wordT
      simp only []
      by_cases h1 : t.k = 1
      · rw [if_pos h1, if_pos h1]
      · rw [if_neg h1, if_neg h1]
        by_cases h2 : t.k = 2
        · rw [if_pos h2, if_pos h2, (hl h2).2]
        · rw [if_neg h2, if_neg h2]
    have rest : ∀ c : Tr, Alike lt lt' lv lv' fl (d + 1) t c → Alike lt lt' lv lv' fl (d + 1) t (if p.pru then pruneT (if p.fol then foldT (d + 1) c else c) else (if p.fol then foldT (d + 1) c else c)) := fun c hc => by
      have h1 : Alike lt lt' lv lv' fl (d + 1) t (if p.fol then foldT (d + 1) c else c) := by
        split
        · exact hc.trans (fold_alike hV hF hc.wf (by rw [hc.ty]; exact hty))
        · exact hc
      split
      · exact h1.trans (prune_alike hV hF h1.wf (by rw [h1.ty]; exact hty))
      · exact h1
    have hown : t.k = 2 → t.kids = [] ∧ lt.getD t.l.toNat 0 ≠ 0 := fun h2 => by
      have hs := wf_leaf h (by unfold leafK; omega)
      refine ⟨hs, ?_⟩
      rw [tyTr, if_pos hs] at hty
      unfold wordTy at hty
      rwa [if_neg (by omega), if_pos h2] at hty
    unfold passT
    refine rest _ ?_
    by_cases hi : p.inl = true
    · rw [if_pos hi]
      unfold inlineT
      simp only []
      by_cases hc : t.k = 2 ∧ (lets.getD t.l.toNat noTr).kids = []
      · rw [if_pos hc]
        obtain ⟨hs, hlt⟩ := hown hc.1
        obtain ⟨o1, o2, o3⟩ := hL.one _ hlt hi hc.2
        refine ⟨o1.up (by omega), ?_, ?_, ?_⟩
        · rw [tyTr_up o1 (by omega), o2, tyTr, if_pos hs]
          unfold wordTy; rw [if_neg (by omega), if_pos hc.1]
        · rw [evT_up o1 (by omega), o3, evT, hs]
          show _ = wordT lv fl t
          unfold wordT; rw [if_neg (by omega), if_pos hc.1]
        · rw [cntT_up o1 (by omega), cntT, hc.2]
          have := cnt_pos h
          simpa using this
      · rw [if_neg hc]
        refine base fun h2 => ?_
        exact hL.same _ (hown h2).2 fun e => hc ⟨h2, e.2⟩
    · rw [if_neg hi]
      exact base fun h2 => hL.same _ (hown h2).2 fun e => hi e.1
end Go.Proofs.YtfkdailfcmnjlaaGreatDoor
