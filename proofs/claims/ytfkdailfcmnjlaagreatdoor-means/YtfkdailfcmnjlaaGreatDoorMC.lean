/-
  The program's words and its reader of conditions answer as the plain functions do.
-/
import Derived.Test.YtfkdailfcmnjlaaGreatDoorMA
import Derived.Test.YtfkdailfcmnjlaaGreatDoorLays
import Derived.Deep.RegionHeldLaw
import Derived.Deep.RegionLaw
import Derived.Lib.ParseIntBCases
import Derived.Deep.RegionHeld3
set_option linter.unusedVariables false
set_option linter.unusedSimpArgs false
namespace Go.Proofs.YtfkdailfcmnjlaaGreatDoor
open Go Go.RowKit
set_option maxRecDepth 100000

/-- The words as they are spelt, by their kinds. -/
def spell : List (List UInt8) := [[], [], [], [40], [41], [59], [43], [45], [61], [60, 61], [60], [108, 101, 116], [97, 108, 108, 111, 119], [100, 101, 110, 121], [105, 102], [116, 104, 101, 110], [101, 108, 115, 101], [111, 114], [97, 110, 100], [110, 111, 116], [116, 114, 117, 101], [102, 97, 108, 115, 101], [110, 111, 110, 101], [105, 110, 118, 105, 116, 101], [106, 111, 105, 110], [108, 101, 97, 118, 101], [98, 97, 110], [108, 101, 118, 101, 108], [114, 97, 110, 107], [110, 101, 101, 100], [119, 104, 101, 110], [115, 101, 110, 100, 101, 114], [116, 97, 114, 103, 101, 116], [119, 97, 110, 116, 115], [115, 101, 108, 102], [111, 112, 101, 110]]

/-- The table of spellings lies in its variable. -/
def Sp (w : World) : Prop := ∀ k, k < 36 → w.cell? ⟨0, k, none⟩ = some (S (spell.getD k []))
theorem Sp.pos {w : World} (h : Sp w) : 0 < w.heap.size := World.block_lt_of_cell? w _ (h 0 (by decide))
theorem Sp.below {w w' : World} (h : Sp w) {B : Nat} (hB : 0 < B) (hb : Below B w w') : Sp w' := fun k hk => by rw [hb.cell (p := ⟨0, k, none⟩) hB]; exact h k hk

set_option maxHeartbeats 400000 in
theorem spelling_any (k : Nat) (w : World) (h : Sp w) (hk : k < 36) : Calls Tryz.prog 119 #[.int .i64 k] w fun e w' => e = .returned (S (spell.getD k [])) ∧ w' = w := by
  have hc := h k hk
  have b1 : (0 : Int) ≤ (k : Int) := by omega
  have b2 : (k : Int) < 36 := by omega
  generalize spell.getD k [] = t at *
  go_enter Tryz.func119, Tryz.ntmps119
  go_wp2
  go_ret
  exact ⟨rfl, rfl⟩

set_option maxHeartbeats 400000 in
theorem isDigit_any (c : UInt8) (w : World) : Calls Tryz.prog 145 #[.int .u8 c.toNat] w fun e w' => e = .returned (.bool (isD c)) ∧ w' = w := by
  have h := c.toNat_lt
  have HE : Hid (isD c = (decide (48 ≤ c.toNat) && decide (c.toNat ≤ 57))) := rfl
  go_enter Tryz.func145, Tryz.ntmps145
  go_wp2
  all_goals go_ret
  all_goals refine ⟨ret_bool ?_, rfl⟩
  all_goals rw [HE.out, Bool.eq_iff_iff]
  all_goals simp
  all_goals omega
set_option maxHeartbeats 400000 in
theorem isLetter_any (c : UInt8) (w : World) : Calls Tryz.prog 148 #[.int .u8 c.toNat] w fun e w' => e = .returned (.bool (isL c)) ∧ w' = w := by
  have h := c.toNat_lt
  have HE : Hid (isL c = (decide (97 ≤ c.toNat) && decide (c.toNat ≤ 122))) := rfl
  go_enter Tryz.func148, Tryz.ntmps148
  go_wp2
  all_goals go_ret
  all_goals refine ⟨ret_bool ?_, rfl⟩
  all_goals rw [HE.out, Bool.eq_iff_iff]
  all_goals simp
  all_goals omega

set_option maxHeartbeats 1000000 in
theorem pastBlanks_any (l : List UInt8) (a : Nat) (w : World) (hl : l.length ≤ 1000) (ha : a ≤ l.length) : Calls Tryz.prog 101 #[S l, .int .i64 a] w fun e w' => e = .returned (.int .i64 (stop isB l a)) ∧ w' = w := by
  go_enter Tryz.func101, Tryz.ntmps101
  go_wp2_with fail
  go_loop [1] (fun i => ∃ j : Nat, a ≤ j ∧ j ≤ l.length ∧ i = .int .i64 j ∧ Hid (stop isB l a = stop isB l j)) (fun i => l.length - (intOf i).toNat)
  case atStart => exact ⟨a, by omega, by omega, rfl, rfl⟩
  case round =>
    obtain ⟨j, hkj, hj, rfl, HB⟩ := hrel
    by_cases hlt : j < l.length
    · go_wp2_with fail
      case roundEnd =>
        refine ⟨⟨j + 1, by omega, by omega, by go_num, ?_⟩, by simp [intOf]; omega⟩
        show _ = _; rw [HB.out]; exact stop_step isB l j hlt (b_yes ‹_›)
      case roundEnd =>
        refine ⟨⟨j + 1, by omega, by omega, by go_num, ?_⟩, by simp [intOf]; omega⟩
        show _ = _; rw [HB.out]; exact stop_step isB l j hlt (b_or ‹_›)
      go_ret
      refine ⟨ret_int ?_, rfl⟩
      rw [HB.out, stop_no isB l j hlt (b_and ‹_›)]
    · go_wp2_with fail
      go_ret
      refine ⟨ret_int ?_, rfl⟩
      rw [HB.out, stop_end isB l j (by omega)]

set_option maxHeartbeats 1000000 in
theorem run_digits (l : List UInt8) (w : World) (hl : l.length ≤ 1000) : Calls Tryz.prog 147 #[S l, .func (.func 145) #[] #[]] w fun e w' => e = .returned (.int .i64 (stop isD l 0)) ∧ w' = w := by
  go_enter Tryz.func147, Tryz.ntmps147
  go_wp2_with fail
  go_loop [5] (fun i => ∃ j : Nat, j ≤ l.length ∧ i = .int .i64 j ∧ Hid (stop isD l 0 = stop isD l j)) (fun i => l.length - (intOf i).toNat)
  case atStart => exact ⟨0, by omega, rfl, rfl⟩
  case round =>
    obtain ⟨j, hj, rfl, HB⟩ := hrel
    by_cases hlt : j < l.length
    · cases hd : isD l[j] with
      | true =>
        have HD : Hid _ := hd
        clear hd
        go_wp2_with fail
        refine (isDigit_any l[j] _).mono ?_
        rintro e w' ⟨rfl, rfl⟩
        rw [HD.out]
        go_wp2_with fail
        refine ⟨⟨j + 1, by omega, by go_num, ?_⟩, by simp [intOf]; omega⟩
        show _ = _; rw [HB.out]; exact stop_step isD l j hlt HD.out
      | false =>
        have HD : Hid _ := hd
        clear hd
        go_wp2_with fail
        refine (isDigit_any l[j] _).mono ?_
        rintro e w' ⟨rfl, rfl⟩
        rw [HD.out]
        go_wp2_with fail
        go_ret
        refine ⟨ret_int ?_, rfl⟩
        rw [HB.out, stop_no isD l j hlt HD.out]
    · go_wp2_with fail
      go_ret
      refine ⟨ret_int ?_, rfl⟩
      rw [HB.out, stop_end isD l j (by omega)]
set_option maxHeartbeats 1000000 in
theorem run_letters (l : List UInt8) (w : World) (hl : l.length ≤ 1000) : Calls Tryz.prog 147 #[S l, .func (.func 148) #[] #[]] w fun e w' => e = .returned (.int .i64 (stop isL l 0)) ∧ w' = w := by
  go_enter Tryz.func147, Tryz.ntmps147
  go_wp2_with fail
  go_loop [5] (fun i => ∃ j : Nat, j ≤ l.length ∧ i = .int .i64 j ∧ Hid (stop isL l 0 = stop isL l j)) (fun i => l.length - (intOf i).toNat)
  case atStart => exact ⟨0, by omega, rfl, rfl⟩
  case round =>
    obtain ⟨j, hj, rfl, HB⟩ := hrel
    by_cases hlt : j < l.length
    · cases hd : isL l[j] with
      | true =>
        have HD : Hid _ := hd
        clear hd
        go_wp2_with fail
        refine (isLetter_any l[j] _).mono ?_
        rintro e w' ⟨rfl, rfl⟩
        rw [HD.out]
        go_wp2_with fail
        refine ⟨⟨j + 1, by omega, by go_num, ?_⟩, by simp [intOf]; omega⟩
        show _ = _; rw [HB.out]; exact stop_step isL l j hlt HD.out
      | false =>
        have HD : Hid _ := hd
        clear hd
        go_wp2_with fail
        refine (isLetter_any l[j] _).mono ?_
        rintro e w' ⟨rfl, rfl⟩
        rw [HD.out]
        go_wp2_with fail
        go_ret
        refine ⟨ret_int ?_, rfl⟩
        rw [HB.out, stop_no isL l j hlt HD.out]
    · go_wp2_with fail
      go_ret
      refine ⟨ret_int ?_, rfl⟩
      rw [HB.out, stop_end isL l j (by omega)]
end Go.Proofs.YtfkdailfcmnjlaaGreatDoor

namespace Go.Proofs.YtfkdailfcmnjlaaGreatDoor
open Go Go.RowKit
set_option maxRecDepth 100000

/-- The kind that the program gives a word. -/
def kindOf (t : Tok) : Nat := if t.k = 110 then 1 else if t.k = 111 then 2 else if t.k = 101 then 0 else (idx spell t.text).toNat

theorem idx_first (l : List (List UInt8)) (s : List UInt8) (k : Nat) (hk : k < l.length) (h1 : ∀ q, q < k → l.getD q [] ≠ s) (h2 : l.getD k [] = s) : idx l s = k := by
  induction l generalizing k with
  | nil => simp at hk
  | cons x r ih =>
    unfold idx
    cases k with
    | zero => simp at h2; rw [h2]; simp
    | succ k =>
      have hx : (x == s) = false := by have := h1 0 (by omega); simpa using this
      have := ih k (by simpa using hk) (fun q hq => by have := h1 (q + 1) (by omega); simpa using this) (by simpa using h2)
      rw [hx, this]; simp; omega
theorem idx_mem {l : List (List UInt8)} {s : List UInt8} (h : 0 ≤ idx l s) : s ∈ l := by
  induction l with
  | nil => simp [idx] at h
  | cons x r ih =>
    unfold idx at h
    by_cases e : (x == s) = true
    · simp at e; simp [e]
    · rw [if_neg e] at h
      by_cases h2 : idx r s < 0
      · rw [if_pos h2] at h; omega
      · exact List.mem_cons_of_mem _ (ih (by omega))
theorem mem_idx {l : List (List UInt8)} {s : List UInt8} (h : s ∈ l) : 0 ≤ idx l s := by
  induction l with
  | nil => simp at h
  | cons x r ih =>
    unfold idx
    by_cases e : (x == s) = true
    · rw [if_pos e]; omega
    · rw [if_neg e]
      have : s ∈ r := by simp at h e; rcases h with h | h; exact absurd h.symm e; exact h
      have := ih this
      rw [if_neg (by omega)]; omega

/-- The keywords stand from the eleventh place on. -/
theorem kw_spell : spell.drop 11 = kOthers ++ kMembers ++ kFields := by decide
theorem isKw_iff (s : List UInt8) : isKw s = true ↔ s ∈ spell.drop 11 := by
  rw [kw_spell]
  unfold isKw
  simp only [Bool.or_eq_true, decide_eq_true_eq, List.mem_append]
  constructor
  · rintro ((h | h) | h)
    · exact .inl (.inr (idx_mem h))
    · exact .inr (idx_mem h)
    · exact .inl (.inl (idx_mem h))
  · rintro ((h | h) | h)
    · exact .inr (mem_idx h)
    · exact .inl (.inl (mem_idx h))
    · exact .inl (.inr (mem_idx h))

theorem letters_ne {s : List UInt8} (h0 : s ≠ []) (hl : ∀ c ∈ s, isL c = true) : ∀ q, q < 11 → spell.getD q [] ≠ s := by
  intro q hq e
  have hall : ∀ q, q < 11 → (spell.getD q []).all isL = true → spell.getD q [] = [] := by decide
  have := hall q hq (by rw [e]; exact List.all_eq_true.2 hl)
  rw [e] at this; exact h0 this

/-- What 'name' answers. -/
def nameV (s : List UInt8) : Value × Nat := if isKw s then (.agg #[.int .i64 (idx spell s), .int .i64 0, .int .i64 0, S []], s.length) else if s.length ≤ 8 then (.agg #[.int .i64 2, .int .i64 0, .int .i64 0, S s], s.length) else (.agg #[.int .i64 0, .int .i64 0, .int .i64 0, S []], 0)

set_option maxHeartbeats 2000000 in
theorem name_any (s : List UInt8) (w : World) (hS : Sp w) (hs : s.length ≤ 1000) (h0 : s ≠ []) (hl : ∀ c ∈ s, isL c = true) :
    Calls Tryz.prog 149 #[S s] w fun e w' => e = .returned (.tuple #[(nameV s).1, .int .i64 (nameV s).2]) ∧ Below w.heap.size w w' := by
  have hB := (Below.refl w.heap.size w).alloc (Nat.le_refl _) (.cells #[.int .i64 0, .int .i64 0, .int .i64 0, S []] 160)
  have hSp := hS.below hS.pos hB
  have HB : Hid _ := hB
  have HL : Hid _ := letters_ne h0 hl
  clear hB h0 hl hS
  go_enter Tryz.func149, Tryz.ntmps149
  go_wp2_with fail
  go_loop [4] (fun i => ∃ k : Nat, 11 ≤ k ∧ k ≤ 36 ∧ i = .int .i64 k ∧ Hid (∀ q, q < k → spell.getD q [] ≠ s)) (fun i => 36 - (intOf i).toNat)
  case atStart => exact ⟨11, by omega, by omega, rfl, HL.out⟩
  case round =>
    obtain ⟨k, hk1, hk2, rfl, HQ⟩ := hrel
    by_cases hlt : k < 36
    · cases he : (s == spell.getD k []) with
      | true =>
        have HE : Hid (spell.getD k [] = s) := by have : s = spell.getD k [] := by simpa using he
                                                  exact this.symm
        have hix : Hid (idx spell s = k) := idx_first spell s k (by exact hlt) HQ.out HE.out
        have hkw : Hid (isKw s = true) := (isKw_iff s).2 (by
          rw [← HE.out, List.getD_eq_getElem?_getD, List.getElem?_eq_getElem (by exact hlt)]
          exact List.mem_drop_iff_getElem.2 ⟨k - 11, by have : spell.length = 36 := rfl; omega, by simp only [Option.getD_some]; congr 1; omega⟩)
        clear he
        go_wp2_with fail
        refine (spelling_any k _ hSp hlt).mono ?_
        rintro e w' ⟨rfl, rfl⟩
        rw [HE.out]
        go_wp2_with fail
        exact bodyPost_ret (v := .tuple #[.agg #[.int .i64 k, .int .i64 0, .int .i64 0, S []], .int .i64 s.length]) (by simp [results, Tryz.results149, go_sem]) rfl ⟨by unfold nameV; rw [if_pos hkw.out, hix.out], (Below.refl _ _).alloc (Nat.le_refl _) _⟩
      | false =>
        have HE : Hid (spell.getD k [] ≠ s) := fun e => by rw [e] at he; simp at he
        have he' := he
        generalize hg : spell.getD k [] = sp at *
        have HG : Hid _ := hg
        clear he hg
        go_wp2_with fail
        refine (spelling_any k _ hSp hlt).mono ?_
        rintro e w' ⟨rfl, rfl⟩
        rw [HG.out]
        go_wp2_with fail
        refine ⟨⟨k + 1, by omega, by omega, by go_num, fun q hq => ?_⟩, by simp [intOf]; omega⟩
        by_cases e : q = k
        · subst e; rw [HG.out]; exact HE.out
        · exact HQ.out q (by omega)
    · have hkw : Hid (isKw s = false) := by
        show _ = _
        cases e : isKw s with
        | false => rfl
        | true =>
          obtain ⟨i, hi, hi2⟩ := List.mem_iff_getElem.1 ((isKw_iff s).1 e)
          have hsl : spell.length = 36 := rfl
          have hi' : i < 25 := by simp at hi; omega
          exact absurd (by rw [List.getElem_drop] at hi2; rw [List.getD_eq_getElem?_getD, List.getElem?_eq_getElem (by omega)]; exact hi2) (HQ.out (11 + i) (by omega))
      by_cases h8 : s.length ≤ 8
      · go_wp2_with fail
        exact bodyPost_ret (v := .tuple #[.agg #[.int .i64 2, .int .i64 0, .int .i64 0, S s], .int .i64 s.length]) (by simp [results, Tryz.results149, go_sem]) rfl ⟨by unfold nameV; rw [if_neg (by simp [hkw.out]), if_pos h8], (Below.refl _ _).alloc (Nat.le_refl _) _⟩
      · go_wp2_with fail
        exact bodyPost_ret (v := .tuple #[.agg #[.int .i64 0, .int .i64 0, .int .i64 0, S []], .int .i64 0]) (by simp [results, Tryz.results149, go_sem]) rfl ⟨by unfold nameV; rw [if_neg (by simp [hkw.out]), if_neg h8]; rfl, (Below.refl _ _).alloc (Nat.le_refl _) _⟩
end Go.Proofs.YtfkdailfcmnjlaaGreatDoor

namespace Go.Proofs.YtfkdailfcmnjlaaGreatDoor
open Go Go.RowKit
set_option maxRecDepth 100000

theorem take_prefix (s p : List UInt8) : (((ByteArray.mk s.toArray).extract 0 p.length).toList == p) = p.isPrefixOf s := by
  rw [cut_ex, ByteArray.toList_mk, Bool.eq_iff_iff, List.isPrefixOf_iff_prefix, List.prefix_iff_eq_take]
  simp only [cut, List.drop_zero, Nat.sub_zero, beq_iff_eq]
  exact eq_comm

set_option maxHeartbeats 1000000 in
theorem hasPrefix_any (s p : List UInt8) (w : World) (hs : s.length ≤ 1000) (hp : p.length ≤ 1000) : Calls Tryz.prog 209 #[S s, S p] w fun e w' => e = .returned (.bool (p.isPrefixOf s)) ∧ w' = w := by
  by_cases h : p.length ≤ s.length
  · go_enter Tryz.func209, Tryz.ntmps209
    go_wp2
    all_goals go_ret
    all_goals refine ⟨ret_bool ?_, rfl⟩
    all_goals exact take_prefix s p
  · have HE : Hid (p.isPrefixOf s = false) := by
      show _ = _
      rw [Bool.eq_false_iff]; intro e
      rw [List.isPrefixOf_iff_prefix] at e
      exact h e.length_le
    rw [HE.out]
    go_enter Tryz.func209, Tryz.ntmps209
    go_wp2
    all_goals go_ret
    all_goals refine ⟨ret_bool ?_, rfl⟩
    all_goals rfl

/-- The first kind of a sign, from one on, that a text begins with. -/
def signK (s : List UInt8) : Option Nat := (List.range' 3 8).find? (fun k => (spell.getD k []).isPrefixOf s)
theorem signK_yes {s : List UInt8} {k : Nat} (h3 : 3 ≤ k) (h11 : k < 11) (h1 : ∀ q, 3 ≤ q → q < k → (spell.getD q []).isPrefixOf s = false) (h2 : (spell.getD k []).isPrefixOf s = true) : signK s = some k := by
  unfold signK
  rw [List.find?_range'_eq_some]
  refine ⟨h2, by simp; omega, fun j hj hk => ?_⟩
  rw [h1 j hj hk]; rfl
theorem signK_no {s : List UInt8} (h1 : ∀ q, 3 ≤ q → q < 11 → (spell.getD q []).isPrefixOf s = false) : signK s = none := by
  unfold signK
  rw [List.find?_eq_none]
  intro x hx
  rw [List.mem_range'_1] at hx
  rw [h1 x (by omega) (by omega)]; simp
/-- What 'sign' answers. -/
def signV (s : List UInt8) : Value × Nat := match signK s with
  | some k => (.agg #[.int .i64 k, .int .i64 0, .int .i64 0, S []], (spell.getD k []).length)
  | none => (.agg #[.int .i64 0, .int .i64 0, .int .i64 0, S []], 0)
theorem spell_short : ∀ k, k < 36 → (spell.getD k []).length ≤ 1000 := by decide

set_option maxHeartbeats 2000000 in
theorem sign_any (s : List UInt8) (w : World) (hS : Sp w) (hs : s.length ≤ 1000) :
    Calls Tryz.prog 150 #[S s] w fun e w' => e = .returned (.tuple #[(signV s).1, .int .i64 (signV s).2]) ∧ Below w.heap.size w w' := by
  have hB := (Below.refl w.heap.size w).alloc (Nat.le_refl _) (.cells #[.int .i64 0, .int .i64 0, .int .i64 0, S []] 160)
  have hSp := hS.below hS.pos hB
  have HB : Hid _ := hB
  clear hB hS
  go_enter Tryz.func150, Tryz.ntmps150
  go_wp2_with fail
  go_loop [4] (fun i => ∃ k : Nat, 3 ≤ k ∧ k ≤ 11 ∧ i = .int .i64 k ∧ Hid (∀ q, 3 ≤ q → q < k → (spell.getD q []).isPrefixOf s = false)) (fun i => 11 - (intOf i).toNat)
  case atStart => exact ⟨3, by omega, by omega, rfl, fun q h1 h2 => by omega⟩
  case round =>
    obtain ⟨k, hk1, hk2, rfl, HQ⟩ := hrel
    by_cases hlt : k < 11
    · have hlen := spell_short k (by omega)
      cases he : (spell.getD k []).isPrefixOf s with
      | true =>
        have HV : Hid (signV s = (.agg #[.int .i64 k, .int .i64 0, .int .i64 0, S []], (spell.getD k []).length)) := by
          show _ = _; unfold signV; rw [signK_yes hk1 hlt HQ.out he]
        have HE : Hid _ := he
        clear he
        generalize hg : spell.getD k [] = sp at *
        have HG : Hid _ := hg
        clear hg
        go_wp2_with fail
        refine (spelling_any k _ hSp (by omega)).mono ?_
        rintro e w' ⟨rfl, rfl⟩
        rw [HG.out]
        go_wp2_with fail
        refine (hasPrefix_any s sp _ hs hlen).mono ?_
        rintro e w' ⟨rfl, rfl⟩
        rw [HE.out]
        go_wp2_with fail
        refine (spelling_any k _ hSp (by omega)).mono ?_
        rintro e w' ⟨rfl, rfl⟩
        rw [HG.out]
        go_wp2_with fail
        exact bodyPost_ret (v := .tuple #[.agg #[.int .i64 k, .int .i64 0, .int .i64 0, S []], .int .i64 sp.length]) (by simp [results, Tryz.results150, go_sem]) rfl ⟨by rw [HV.out], (Below.refl _ _).alloc (Nat.le_refl _) _⟩
      | false =>
        have HE : Hid _ := he
        have HE2 : Hid _ := he
        clear he
        generalize hg : spell.getD k [] = sp at hlen HE
        have HG : Hid _ := hg
        clear hg
        go_wp2_with fail
        refine (spelling_any k _ hSp (by omega)).mono ?_
        rintro e w' ⟨rfl, rfl⟩
        rw [HG.out]
        go_wp2_with fail
        refine (hasPrefix_any s sp _ hs hlen).mono ?_
        rintro e w' ⟨rfl, rfl⟩
        rw [HE.out]
        go_wp2_with fail
        refine ⟨⟨k + 1, by omega, by omega, by go_num, fun q h3 hq => ?_⟩, by simp [intOf]; omega⟩
        by_cases e : q = k
        · rw [e]; exact HE2.out
        · exact HQ.out q h3 (by omega)
    · have HV : Hid (signV s = (.agg #[.int .i64 0, .int .i64 0, .int .i64 0, S []], 0)) := by
        show _ = _; unfold signV; rw [signK_no (fun q h1 h2 => HQ.out q h1 (by omega))]
      go_wp2_with fail
      exact bodyPost_ret (v := .tuple #[.agg #[.int .i64 0, .int .i64 0, .int .i64 0, S []], .int .i64 0]) (by simp [results, Tryz.results150, go_sem]) rfl ⟨by rw [HV.out]; rfl, (Below.refl _ _).alloc (Nat.le_refl _) _⟩
end Go.Proofs.YtfkdailfcmnjlaaGreatDoor

namespace Go.Proofs.YtfkdailfcmnjlaaGreatDoor
open Go Go.RowKit
set_option maxRecDepth 100000

theorem dv_ge_acc (n : Nat) (l : List UInt8) : n ≤ dv n l := by
  rw [dv_acc]
  have : 1 ≤ 10 ^ l.length := Nat.pos_of_ne_zero (by simp)
  calc n = n * 1 := by omega
    _ ≤ n * 10 ^ l.length := Nat.mul_le_mul_left n this
    _ ≤ _ := by omega
theorem parseUintM_digits (l : List UInt8) : ∀ acc : Nat, (∀ c ∈ l, isD c = true) → acc ≤ 18446744073709551615 → Lib.parseUintM 18446744073709551615 acc l = if 18446744073709551615 < dv acc l then .range else .ok (dv acc l) := by
  induction l with
  | nil => intro acc _ ha; unfold Lib.parseUintM; rw [if_neg (by show ¬ _ < dv acc []; unfold dv; simp; omega)]; rfl
  | cons c r ih =>
    intro acc h ha
    have hc := isD_le (h c (by simp))
    unfold Lib.parseUintM
    rw [if_pos hc, dv_cons]
    have hge := dv_ge_acc (acc * 10 + (c.toNat - 48)) r
    by_cases h1 : 1844674407370955162 ≤ acc
    · rw [if_pos h1, if_pos (by omega)]
    · rw [if_neg h1]
      by_cases h2 : 18446744073709551615 < acc * 10 + (c.toNat - 48)
      · rw [if_pos h2, if_pos (by omega)]
      · rw [if_neg h2]
        exact ih _ (fun x hx => h x (by simp [hx])) (by omega)
theorem parse_digits (l : List UInt8) (h0 : l ≠ []) (h : ∀ c ∈ l, isD c = true) : Lib.parseIntB 64 l = if big l then .range else .ok ((decVal l : Nat) : Int) := by
  cases l with
  | nil => exact absurd rfl h0
  | cons c r =>
    have hc := isD_le (h c (by simp))
    rw [Lib.parseIntB_plain 64 c r (by omega) (by omega)]
    unfold Lib.parseUintB
    rw [if_neg h0, show (2 : Nat) ^ 64 - 1 = 18446744073709551615 from rfl, parseUintM_digits _ 0 h (by omega), show (2 : Nat) ^ (64 - 1) = 9223372036854775808 from rfl]
    have hd : decVal (c :: r) = dv 0 (c :: r) := rfl
    unfold big
    rw [hd]
    by_cases h1 : 18446744073709551615 < dv 0 (c :: r)
    · rw [if_pos h1, if_pos (by simp; omega)]; rfl
    · rw [if_neg h1]
      unfold Lib.signlessC
      by_cases h2 : 9223372036854775807 < dv 0 (c :: r)
      · simp only []
        rw [if_pos (by omega), if_pos (by simpa using h2)]
      · simp only []
        rw [if_neg (by omega), if_neg (by simpa using h2)]
/-- What 'number' answers. -/
def numV (s : List UInt8) : Value × Nat := if big s then (.agg #[.int .i64 0, .int .i64 0, .int .i64 0, S []], 0) else (.agg #[.int .i64 1, .int .i64 0, .int .i64 (decVal s), S []], s.length)
end Go.Proofs.YtfkdailfcmnjlaaGreatDoor

namespace Go.Proofs.YtfkdailfcmnjlaaGreatDoor
open Go Go.RowKit
set_option maxRecDepth 100000
theorem parseInt_ok (s : ByteArray) (hmax : s.size ≤ 9223372036854775806) (v : Int) (h : Lib.parseIntB 64 s.data.toList = .ok v) (w : World) :
    Calls Tryz.prog 208 #[.string s, .int .i64 10, .int .i64 64] w fun e w' => e = .returned (.tuple #[.int .i64 v, .nilIface]) ∧ (w' = w ∨ ∃ t, w' = Lib.bytesWorld w 5 t) := Any.strconv_ParseInt_10_at64_ok laysPI s hmax v h w
theorem parseInt_range (s : ByteArray) (hlim : s.size ≤ 281474976710656) (h : Lib.parseIntB 64 s.data.toList = .range) (ev : Value) (w : World) (hv : w.cell? ⟨4, 0, none⟩ = some ev) (hev : ev = .nilIface ∨ ∃ te pe, ev = .iface te pe) :
    Calls Tryz.prog 208 #[.string s, .int .i64 10, .int .i64 64] w fun e w' => ∃ N, e = .returned (.tuple #[.int .i64 (Lib.intSat 64 s.data.toList), .iface 346 (.pointer (some ⟨N, 0, none⟩))]) ∧ w.heap.size ≤ N ∧ w'.heap[N]? = some (.cells #[.string ⟨#[80, 97, 114, 115, 101, 73, 110, 116]⟩, .string s, ev] 357 (0, 0)) ∧ Below w.heap.size w w' := Any.strconv_ParseInt_10_at64_range laysPI s hlim h ev w hv hev

/-- What the program's words need of memory: the spellings, and the library's ErrRange. -/
structure Wd (w : World) : Prop where
  sp : Sp w
  er : ∃ ev, w.cell? ⟨4, 0, none⟩ = some ev ∧ (ev = .nilIface ∨ ∃ te pe, ev = .iface te pe)
theorem Wd.pos {w : World} (h : Wd w) : 0 < w.heap.size := h.sp.pos
theorem Wd.below {w w' : World} (h : Wd w) (hb : Below w.heap.size w w') : Wd w' := by
  refine ⟨h.sp.below h.pos hb, ?_⟩
  obtain ⟨ev, h1, h2⟩ := h.er
  exact ⟨ev, by rw [hb.cell (p := ⟨4, 0, none⟩) (World.block_lt_of_cell? w _ h1)]; exact h1, h2⟩

/-- A variable of type Word. -/
def wvObj (k a n : Int) (s : List UInt8) : Obj := .cells #[.int .i64 k, .int .i64 a, .int .i64 n, S s] 160 (0, 0)
theorem wv_cells {w : World} {b : Nat} {k a n : Int} {s : List UInt8} (h : w.heap[b]? = some (wvObj k a n s)) : (w.cell? ⟨b, 0, none⟩ = some (.int .i64 k) ∧ w.cell? ⟨b, 1, none⟩ = some (.int .i64 a) ∧ w.cell? ⟨b, 2, none⟩ = some (.int .i64 n) ∧ w.cell? ⟨b, 3, none⟩ = some (S s)) ∧ ∀ j, w.frozen? ⟨b, j, none⟩ = false := by
  have hc := fun j => cell_of_row w b j _ _ _ h
  exact ⟨⟨hc 0, hc 1, hc 2, hc 3⟩, fun j => by simp [World.frozen?, h, wvObj]⟩

set_option maxHeartbeats 2000000 in
theorem number_any (s : List UInt8) (w : World) (hW : Wd w) (hs : s.length ≤ 1000) (h0 : s ≠ []) (hl : ∀ c ∈ s, isD c = true) :
    Calls Tryz.prog 146 #[S s] w fun e w' => e = .returned (.tuple #[(numV s).1, .int .i64 (numV s).2]) ∧ Below w.heap.size w w' := by
  have hp := parse_digits s h0 hl
  have hsz : (ByteArray.mk s.toArray).size = s.length := by simp [ByteArray.size]
  have HA := (Below.refl w.heap.size w).alloc (Nat.le_refl _) (wvObj 0 0 0 [])
  have hnew : (w.alloc (wvObj 0 0 0 [])).heap[w.heap.size]? = some (wvObj 0 0 0 []) := heap_alloc_new w _
  have hsize : w.heap.size < (w.alloc (wvObj 0 0 0 [])).heap.size := by simp
  have hW2 := hW.below HA
  cases hb : big s with
  | true =>
    rw [hb, if_pos rfl] at hp
    have HV : Hid (numV s = (.agg #[.int .i64 0, .int .i64 0, .int .i64 0, S []], 0)) := by show _ = _; unfold numV; rw [if_pos hb]
    clear hb hl h0
    obtain ⟨ev, hv, hev⟩ := hW2.er
    have HI := parseInt_range ⟨s.toArray⟩ (by omega) (by simpa using hp) ev _ hv hev
    clear hv hev hp hW hW2
    have HA' : Hid _ := HA
    have hnew' : Hid _ := hnew
    have hsize' : Hid _ := hsize
    clear HA hnew hsize hsz
    go_enter Tryz.func146, Tryz.ntmps146
    go_wp2_with fail
    refine HI.mono ?_
    rintro e w' ⟨n, rfl, hn, hn2, hbl⟩
    have hat : w'.heap[w.heap.size]? = some (wvObj 0 0 0 []) := by rw [hbl.block _ hsize'.out]; exact hnew'.out
    have HB : Hid (Below w.heap.size w w') := HA'.out.trans (hbl.mono (Nat.le_of_lt hsize'.out))
    obtain ⟨⟨c0, c1, c2, c3⟩, cf⟩ := wv_cells hat
    clear HI hn2 hat hbl hn HA' hnew' hsize'
    generalize hn0 : w.heap.size = nb at c0 c1 c2 c3 cf HB ⊢
    have HN : Hid _ := hn0
    clear hn0
    go_wp2_with fail
    have hge : w.heap.size ≤ nb := Nat.le_of_eq HN.out
    exact bodyPost_ret (v := .tuple #[.agg #[.int .i64 0, .int .i64 0, .int .i64 0, S []], .int .i64 0]) (by simp [results, Tryz.results146, go_sem, c0, c1, c2, c3, cf]) rfl ⟨by rw [HV.out]; rfl, (((((HB.out.mono hge).setCell hge _).setCell hge _).setCell hge _).setCell hge _)⟩
  | false =>
    rw [hb, if_neg (by simp)] at hp
    have HV : Hid (numV s = (.agg #[.int .i64 1, .int .i64 0, .int .i64 (decVal s), S []], s.length)) := by show _ = _; unfold numV; rw [if_neg (by simp [hb])]
    clear hb hl h0
    have HI := parseInt_ok ⟨s.toArray⟩ (by omega) _ (by simpa using hp) (w.alloc (wvObj 0 0 0 []))
    clear hp hW hW2
    have HA' : Hid _ := HA
    have hnew' : Hid _ := hnew
    have hsize' : Hid _ := hsize
    clear HA hnew hsize hsz
    go_enter Tryz.func146, Tryz.ntmps146
    go_wp2_with fail
    refine HI.mono ?_
    rintro e w' ⟨rfl, hww⟩
    have hbl : Below (w.alloc (wvObj 0 0 0 [])).heap.size (w.alloc (wvObj 0 0 0 [])) w' := by
      rcases hww with rfl | ⟨t, rfl⟩
      · exact Below.refl _ _
      · exact Lib.bytesWorld_below _ _ _
    have hat : w'.heap[w.heap.size]? = some (wvObj 0 0 0 []) := by rw [hbl.block _ hsize'.out]; exact hnew'.out
    have HB : Hid (Below w.heap.size w w') := HA'.out.trans (hbl.mono (Nat.le_of_lt hsize'.out))
    obtain ⟨⟨c0, c1, c2, c3⟩, cf⟩ := wv_cells hat
    clear HI hat hbl hww HA' hnew' hsize'
    generalize hn0 : w.heap.size = nb at c0 c1 c2 c3 cf HB ⊢
    have HN : Hid _ := hn0
    clear hn0
    go_wp2_with fail
    have hge : w.heap.size ≤ nb := Nat.le_of_eq HN.out
    exact bodyPost_ret (v := .tuple #[.agg #[.int .i64 1, .int .i64 0, .int .i64 (decVal s), S []], .int .i64 s.length]) (by simp [results, Tryz.results146, go_sem, c0, c1, c2, c3, cf]) rfl ⟨by rw [HV.out], (((((HB.out.mono hge).setCell hge _).setCell hge _).setCell hge _).setCell hge _)⟩
end Go.Proofs.YtfkdailfcmnjlaaGreatDoor

namespace Go.Proofs.YtfkdailfcmnjlaaGreatDoor
open Go Go.RowKit
set_option maxRecDepth 100000

/-- What the program keeps of a word. -/
def nmOf (t : Tok) : Nat := if t.k = 110 then decVal t.text else 0
def ownOf (t : Tok) : List UInt8 := if t.k = 111 then t.text else []
def wordV (t : Tok) (a : Nat) : Value := .agg #[.int .i64 (kindOf t), .int .i64 a, .int .i64 (nmOf t), S (ownOf t)]
/-- What 'first' answers. -/
def firstV (s : List UInt8) : Value × Nat := if isD (s.getD 0 0) then numV (s.take (stop isD s 0)) else if isL (s.getD 0 0) then nameV (s.take (stop isL s 0)) else signV s

theorem signK_cons (c : UInt8) (r : List UInt8) : signK (c :: r) = if c = 40 then some 3 else if c = 41 then some 4 else if c = 59 then some 5 else if c = 43 then some 6 else if c = 45 then some 7 else if c = 61 then some 8 else if c = 60 then (if (r.getD 0 0) = 61 then some 9 else some 10) else none := by
  by_cases h : 40 = c
  · subst h; simp [signK, List.range', List.find?, spell, List.isPrefixOf]
  by_cases h : 41 = c
  · subst h; simp [signK, List.range', List.find?, spell, List.isPrefixOf]
  by_cases h : 59 = c
  · subst h; simp [signK, List.range', List.find?, spell, List.isPrefixOf]
  by_cases h : 43 = c
  · subst h; simp [signK, List.range', List.find?, spell, List.isPrefixOf]
  by_cases h : 45 = c
  · subst h; simp [signK, List.range', List.find?, spell, List.isPrefixOf]
  by_cases h : 61 = c
  · subst h; simp [signK, List.range', List.find?, spell, List.isPrefixOf]
  by_cases h : 60 = c
  · subst h
    cases r with
    | nil => simp [signK, List.range', List.find?, spell, List.isPrefixOf]
    | cons d r =>
      by_cases h : 61 = d
      · subst h; simp [signK, List.range', List.find?, spell, List.isPrefixOf]
      · have h' : ¬ d = 61 := fun e => h e.symm
        have hb : ((61 : UInt8) == d) = false := by simpa using h
        simp [signK, List.range', List.find?, spell, List.isPrefixOf, h', hb]
  have hb : ∀ x : UInt8, ¬ x = c → (x == c) = false := fun x hx => by simpa using hx
  have hc : ∀ x : UInt8, ¬ x = c → ¬ c = x := fun x hx e => hx e.symm
  rename_i h1 h2 h3 h4 h5 h6
  simp [signK, List.range', List.find?, spell, List.isPrefixOf, hb _ h, hb _ h1, hb _ h2, hb _ h3, hb _ h4, hb _ h5, hb _ h6, hc _ h, hc _ h1, hc _ h2, hc _ h3, hc _ h4, hc _ h5, hc _ h6]

theorem stop_drop (p : UInt8 → Bool) (l : List UInt8) (a : Nat) : stop p l a = a + stop p (l.drop a) 0 := by
  unfold stop; simp
theorem cut_drop (l : List UInt8) (a n : Nat) : cut l a (a + n) = (l.drop a).take n := by
  unfold cut; rw [show a + n - a = n from by omega]
theorem stop_pos (p : UInt8 → Bool) (c : UInt8) (r : List UInt8) : 0 < stop p (c :: r) 0 ↔ p c = true := by
  unfold stop
  cases h : p c <;> simp [h]
theorem stop_len (p : UInt8 → Bool) (s : List UInt8) : (s.take (stop p s 0)).length = stop p s 0 := by
  rw [List.length_take]; have := stop_le p s 0 (Nat.zero_le _); omega
theorem toNat_eq (c : UInt8) (n : Nat) (hn : n < 256) : c.toNat = n ↔ c = UInt8.ofNat n := by
  constructor
  · intro h; rw [← h]; simp
  · intro h; rw [h]; simp; omega

/-- The first word is what the plain lexer says. -/
theorem firstV_spec (l : List UInt8) (a : Nat) (ha : a < l.length) :
    (wordAt l a = none ∧ firstV (l.drop a) = (.agg #[.int .i64 0, .int .i64 0, .int .i64 0, S []], 0)) ∨ ∃ t, wordAt l a = some t ∧ firstV (l.drop a) = (wordV t 0, t.text.length) ∧ 0 < t.text.length := by
  have hget : l[a]? = some l[a] := List.getElem?_eq_getElem ha
  have hdrop : l.drop a = l[a] :: l.drop (a + 1) := List.drop_eq_getElem_cons ha
  have hnext : l.getD (a + 1) 0 = (l.drop (a + 1)).getD 0 0 := by simp [List.getD_eq_getElem?_getD]
  unfold wordAt
  rw [stop_drop isD l a, stop_drop isL l a, cut_drop, cut_drop, hget, hnext]
  simp only [Nat.lt_add_right_iff_pos, Nat.add_sub_cancel_left]
  unfold firstV
  rw [hdrop]
  generalize l[a] = c
  generalize l.drop (a + 1) = r
  rw [show (c :: r).getD 0 0 = c from rfl]
  simp only [stop_pos]
  by_cases hd : isD c = true
  · rw [if_pos hd, if_pos hd]
    have hlen := stop_len isD (c :: r)
    have hp := (stop_pos isD c r).2 hd
    unfold numV
    cases hb : big ((c :: r).take (stop isD (c :: r) 0)) with
    | true => left; exact ⟨by simp, by simp⟩
    | false => right; exact ⟨_, by rw [if_neg (by simp)], by simp [wordV, kindOf, nmOf, ownOf], by rw [hlen]; exact hp⟩
  · rw [if_neg hd, if_neg hd]
    by_cases hL : isL c = true
    · rw [if_pos hL, if_pos hL]
      have hlen := stop_len isL (c :: r)
      have hp := (stop_pos isL c r).2 hL
      unfold nameV
      cases hb : isKw ((c :: r).take (stop isL (c :: r) 0)) with
      | true =>
        right
        refine ⟨_, by rw [if_pos rfl], ?_, by rw [hlen]; exact hp⟩
        have : 0 ≤ idx spell ((c :: r).take (stop isL (c :: r) 0)) := mem_idx (List.mem_of_mem_drop ((isKw_iff _).1 hb))
        rw [if_pos rfl]
        simp only [wordV, kindOf, nmOf, ownOf]
        simp [Int.toNat_of_nonneg this]
      | false =>
        simp only [Bool.false_eq_true, if_false, hlen]
        by_cases h8 : stop isL (c :: r) 0 ≤ 8
        · right
          exact ⟨_, by rw [if_pos h8], by rw [if_pos h8]; simp [wordV, kindOf, nmOf, ownOf, hlen], by rw [hlen]; exact hp⟩
        · left; exact ⟨by rw [if_neg h8], by rw [if_neg h8]⟩
    · rw [if_neg hL, if_neg hL]
      unfold signV
      rw [signK_cons]
      simp only [toNat_eq _ 60 (by omega), toNat_eq _ 61 (by omega), toNat_eq _ 40 (by omega), toNat_eq _ 41 (by omega), toNat_eq _ 59 (by omega), toNat_eq _ 43 (by omega), toNat_eq _ 45 (by omega)]
      clear hd hL hdrop hget hnext
      by_cases h : c = 60
      · subst h
        by_cases h2 : r.getD 0 0 = 61
        · right
          exact ⟨⟨115, [60, 61], a⟩, by rw [h2]; rfl, by rw [h2]; rfl, by simp⟩
        · right
          refine ⟨⟨115, [60], a⟩, ?_, ?_, by simp⟩
          · show (if _ then (if r.getD 0 0 = UInt8.ofNat 61 then _ else _) else _) = _
            rw [if_pos (show (60 : UInt8) = UInt8.ofNat 60 from rfl), if_neg (show ¬ r.getD 0 0 = UInt8.ofNat 61 from h2)]
          · simp only [h2, if_false]; rfl
      by_cases h : c = 40
      · subst h; right
        exact ⟨⟨115, [40], a⟩, rfl, rfl, by simp⟩
      by_cases h : c = 41
      · subst h; right
        exact ⟨⟨115, [41], a⟩, rfl, rfl, by simp⟩
      by_cases h : c = 59
      · subst h; right
        exact ⟨⟨115, [59], a⟩, rfl, rfl, by simp⟩
      by_cases h : c = 43
      · subst h; right
        exact ⟨⟨115, [43], a⟩, rfl, rfl, by simp⟩
      by_cases h : c = 45
      · subst h; right
        exact ⟨⟨115, [45], a⟩, rfl, rfl, by simp⟩
      by_cases h : c = 61
      · subst h; right
        exact ⟨⟨115, [61], a⟩, rfl, rfl, by simp⟩
      left
      rename_i h1 h2 h3 h4 h5 h6
      exact ⟨by simp [h, h1, h2, h3, h4, h5, h6], by simp [h, h1, h2, h3, h4, h5, h6]⟩
end Go.Proofs.YtfkdailfcmnjlaaGreatDoor

namespace Go.Proofs.YtfkdailfcmnjlaaGreatDoor
open Go Go.RowKit
set_option maxRecDepth 100000

theorem take_all (p : UInt8 → Bool) (s : List UInt8) : ∀ c ∈ s.take (stop p s 0), p c = true := by
  intro c hc
  unfold stop at hc
  simp only [Nat.zero_add, List.drop_zero] at hc
  have : s.take (s.takeWhile p).length = s.takeWhile p := (List.prefix_iff_eq_take.1 (List.takeWhile_prefix p)).symm
  rw [this] at hc
  exact (List.all_eq_true.1 (List.all_takeWhile)) c hc
theorem cut_zero (s : List UInt8) (n : Nat) : cut s 0 n = s.take n := by unfold cut; simp
theorem num_shape (s : List UInt8) : ∃ (k n : Int) (t : List UInt8) (z : Nat), numV s = (.agg #[.int .i64 k, .int .i64 0, .int .i64 n, S t], z) := by
  unfold numV; split <;> exact ⟨_, _, _, _, rfl⟩
theorem name_shape (s : List UInt8) : ∃ (k n : Int) (t : List UInt8) (z : Nat), nameV s = (.agg #[.int .i64 k, .int .i64 0, .int .i64 n, S t], z) := by
  unfold nameV; split
  · exact ⟨_, _, _, _, rfl⟩
  · split <;> exact ⟨_, _, _, _, rfl⟩
theorem sign_shape (s : List UInt8) : ∃ (k n : Int) (t : List UInt8) (z : Nat), signV s = (.agg #[.int .i64 k, .int .i64 0, .int .i64 n, S t], z) := by
  unfold signV; split <;> exact ⟨_, _, _, _, rfl⟩

set_option maxHeartbeats 4000000 in
theorem first_any (s : List UInt8) (w : World) (hW : Wd w) (hs : s.length ≤ 1000) (h0 : 0 < s.length) :
    Calls Tryz.prog 102 #[S s] w fun e w' => e = .returned (.tuple #[(firstV s).1, .int .i64 (firstV s).2]) ∧ Below w.heap.size w w' := by
  have hg : s.getD 0 0 = s[0] := by simp [List.getD_eq_getElem?_getD, List.getElem?_eq_getElem h0]
  have HA := (Below.refl w.heap.size w).alloc (Nat.le_refl _) (wvObj 0 0 0 [])
  have hnew : (w.alloc (wvObj 0 0 0 [])).heap[w.heap.size]? = some (wvObj 0 0 0 []) := heap_alloc_new w _
  have hsize : w.heap.size < (w.alloc (wvObj 0 0 0 [])).heap.size := by simp
  have hW2 := hW.below HA
  have HA' : Hid _ := HA
  have hnew' : Hid _ := hnew
  have hsize' : Hid _ := hsize
  clear HA hnew hsize hW
  by_cases hd : isD s[0] = true
  · have HV : Hid (firstV s = numV (s.take (stop isD s 0))) := by show _ = _; unfold firstV; rw [hg, if_pos hd]
    obtain ⟨k, n, t, z, hsh⟩ := num_shape (s.take (stop isD s 0))
    have hle := stop_le isD s 0 (Nat.zero_le _)
    have hpos : 0 < stop isD s 0 := by rw [stop_step isD s 0 h0 hd]; exact stop_ge _ _ _
    have hne : s.take (stop isD s 0) ≠ [] := by intro e; have := congrArg List.length e; rw [stop_len] at this; simp at this; omega
    have HI := number_any (s.take (stop isD s 0)) _ hW2 (by rw [stop_len]; omega) hne (take_all isD s)
    rw [hsh] at HI
    have HS : Hid _ := hsh
    have HD : Hid _ := hd
    have HR := run_digits s (w.alloc (wvObj 0 0 0 [])) hs
    rw [← cut_zero] at HI
    have HQ : Hid (stop isD s 0 = stop isD s 0) := rfl
    clear hd hg hsh hpos hne
    generalize hj : stop isD s 0 = j at hle HI HR
    clear hj HQ
    go_enter Tryz.func102, Tryz.ntmps102
    go_wp2_with fail
    refine (isDigit_any s[0] _).mono ?_
    rintro e w' ⟨rfl, rfl⟩
    rw [HD.out]
    go_wp2_with fail
    refine HR.mono ?_
    rintro e w' ⟨rfl, rfl⟩
    clear HR
    go_wp2_with fail
    rw [cut_ex]
    refine HI.mono ?_
    rintro e w' ⟨rfl, hbl⟩
    have hat : w'.heap[w.heap.size]? = some (wvObj 0 0 0 []) := by rw [hbl.block _ hsize'.out]; exact hnew'.out
    have HB : Hid (Below w.heap.size w w') := HA'.out.trans (hbl.mono (Nat.le_of_lt hsize'.out))
    obtain ⟨⟨c0, c1, c2, c3⟩, cf⟩ := wv_cells hat
    clear HI hat hbl HA' hnew' hsize' hW2
    generalize hn0 : w.heap.size = nb at c0 c1 c2 c3 cf HB ⊢
    have HN : Hid _ := hn0
    clear hn0
    go_wp2_with fail
    have hge : w.heap.size ≤ nb := Nat.le_of_eq HN.out
    exact bodyPost_ret (v := .tuple #[.agg #[.int .i64 k, .int .i64 0, .int .i64 n, S t], .int .i64 z]) (by simp [results, Tryz.results102, go_sem, c0, c1, c2, c3, cf]) rfl ⟨by rw [HV.out, HS.out], (((((HB.out.mono hge).setCell hge _).setCell hge _).setCell hge _).setCell hge _)⟩
  · have hd' : isD s[0] = false := by simpa using hd
    have HD : Hid _ := hd'
    by_cases hL : isL s[0] = true
    · have HV : Hid (firstV s = nameV (s.take (stop isL s 0))) := by show _ = _; unfold firstV; rw [hg, if_neg hd, if_pos hL]
      obtain ⟨k, n, t, z, hsh⟩ := name_shape (s.take (stop isL s 0))
      have hle := stop_le isL s 0 (Nat.zero_le _)
      have hpos : 0 < stop isL s 0 := by rw [stop_step isL s 0 h0 hL]; exact stop_ge _ _ _
      have hne : s.take (stop isL s 0) ≠ [] := by intro e; have := congrArg List.length e; rw [stop_len] at this; simp at this; omega
      have HI := name_any (s.take (stop isL s 0)) _ hW2.sp (by rw [stop_len]; omega) hne (take_all isL s)
      rw [hsh] at HI
      have HS : Hid _ := hsh
      have HL : Hid _ := hL
      have HR := run_letters s (w.alloc (wvObj 0 0 0 [])) hs
      rw [← cut_zero] at HI
      clear hd hd' hL hg hsh hpos hne
      generalize hj : stop isL s 0 = j at hle HI HR
      clear hj
      go_enter Tryz.func102, Tryz.ntmps102
      go_wp2_with fail
      refine (isDigit_any s[0] _).mono ?_
      rintro e w' ⟨rfl, rfl⟩
      rw [HD.out]
      go_wp2_with fail
      refine (isLetter_any s[0] _).mono ?_
      rintro e w' ⟨rfl, rfl⟩
      rw [HL.out]
      go_wp2_with fail
      refine HR.mono ?_
      rintro e w' ⟨rfl, rfl⟩
      clear HR
      go_wp2_with fail
      rw [cut_ex]
      refine HI.mono ?_
      rintro e w' ⟨rfl, hbl⟩
      have hat : w'.heap[w.heap.size]? = some (wvObj 0 0 0 []) := by rw [hbl.block _ hsize'.out]; exact hnew'.out
      have HB : Hid (Below w.heap.size w w') := HA'.out.trans (hbl.mono (Nat.le_of_lt hsize'.out))
      obtain ⟨⟨c0, c1, c2, c3⟩, cf⟩ := wv_cells hat
      clear HI hat hbl HA' hnew' hsize' hW2
      generalize hn0 : w.heap.size = nb at c0 c1 c2 c3 cf HB ⊢
      have HN : Hid _ := hn0
      clear hn0
      go_wp2_with fail
      have hge : w.heap.size ≤ nb := Nat.le_of_eq HN.out
      exact bodyPost_ret (v := .tuple #[.agg #[.int .i64 k, .int .i64 0, .int .i64 n, S t], .int .i64 z]) (by simp [results, Tryz.results102, go_sem, c0, c1, c2, c3, cf]) rfl ⟨by rw [HV.out, HS.out], (((((HB.out.mono hge).setCell hge _).setCell hge _).setCell hge _).setCell hge _)⟩
    · have HV : Hid (firstV s = signV s) := by show _ = _; unfold firstV; rw [hg, if_neg hd, if_neg hL]
      obtain ⟨k, n, t, z, hsh⟩ := sign_shape s
      have HI := sign_any s _ hW2.sp hs
      rw [hsh] at HI
      have HS : Hid _ := hsh
      have hL' : isL s[0] = false := by simpa using hL
      have HL : Hid _ := hL'
      clear hd hd' hL hL' hg hsh
      go_enter Tryz.func102, Tryz.ntmps102
      go_wp2_with fail
      refine (isDigit_any s[0] _).mono ?_
      rintro e w' ⟨rfl, rfl⟩
      rw [HD.out]
      go_wp2_with fail
      refine (isLetter_any s[0] _).mono ?_
      rintro e w' ⟨rfl, rfl⟩
      rw [HL.out]
      go_wp2_with fail
      refine HI.mono ?_
      rintro e w' ⟨rfl, hbl⟩
      have hat : w'.heap[w.heap.size]? = some (wvObj 0 0 0 []) := by rw [hbl.block _ hsize'.out]; exact hnew'.out
      have HB : Hid (Below w.heap.size w w') := HA'.out.trans (hbl.mono (Nat.le_of_lt hsize'.out))
      obtain ⟨⟨c0, c1, c2, c3⟩, cf⟩ := wv_cells hat
      clear HI hat hbl HA' hnew' hsize' hW2
      generalize hn0 : w.heap.size = nb at c0 c1 c2 c3 cf HB ⊢
      have HN : Hid _ := hn0
      clear hn0
      go_wp2_with fail
      have hge : w.heap.size ≤ nb := Nat.le_of_eq HN.out
      exact bodyPost_ret (v := .tuple #[.agg #[.int .i64 k, .int .i64 0, .int .i64 n, S t], .int .i64 z]) (by simp [results, Tryz.results102, go_sem, c0, c1, c2, c3, cf]) rfl ⟨by rw [HV.out, HS.out], (((((HB.out.mono hge).setCell hge _).setCell hge _).setCell hge _).setCell hge _)⟩
end Go.Proofs.YtfkdailfcmnjlaaGreatDoor

namespace Go.Proofs.YtfkdailfcmnjlaaGreatDoor
open Go Go.RowKit
set_option maxRecDepth 100000

theorem info_pword : (Tryz.prog.info? 160).map (fun i => (i.zero, i.size, i.bytes)) = some (some (.agg #[.int .i64 0, .int .i64 0, .int .i64 0, .string ⟨#[]⟩]), 4, 40) := by kernel_rfl

/-- The cells of the program's words, one behind the other. -/
def wcell (t : Tok) : List Value := [.int .i64 (kindOf t), .int .i64 t.pl, .int .i64 (nmOf t), S (ownOf t)]
def wCells (ts : List Tok) : List Value := ts.flatMap wcell
theorem wCells_len (ts : List Tok) : (wCells ts).length = ts.length * 4 := by
  induction ts with
  | nil => rfl
  | cons t ts ih => simp [wCells, wcell] at ih ⊢; omega
theorem wCells_snoc (ts : List Tok) (t : Tok) : wCells (ts ++ [t]) = wCells ts ++ [.int .i64 (kindOf t), .int .i64 t.pl, .int .i64 (nmOf t), S (ownOf t)] := by simp [wCells, wcell]

theorem cell_four_new (w : World) (a b c d : Value) (t : TypeId) : ∀ j u, [a, b, c, d][j]? = some u → (w.alloc (.cells #[a, b, c, d] t)).cell? ((⟨w.heap.size, 0, none⟩ : Addr).add j) = some u := by
  intro j u hj
  match j, hj with
  | 0, hj => simp at hj; subst hj; simp [Addr.add]
  | 1, hj => simp at hj; subst hj; simp [Addr.add]
  | 2, hj => simp at hj; subst hj; simp [Addr.add]
  | 3, hj => simp at hj; subst hj; simp [Addr.add]
  | j + 4, hj => simp at hj

theorem cell_four_new2 (w : World) (o : Obj) (a b c d : Value) (t : TypeId) : ∀ j u, [a, b, c, d][j]? = some u → ((w.alloc o).alloc (.cells #[a, b, c, d] t)).cell? ((⟨w.heap.size + 1, 0, none⟩ : Addr).add j) = some u := by
  have h := cell_four_new (w.alloc o) a b c d t
  rw [World.size_alloc] at h; exact h
theorem cut_from (l : List UInt8) (j : Nat) : cut l j l.length = l.drop j := by
  unfold cut; exact List.take_of_length_le (by simp)
/-- What 'Split' answers. -/
def SplitAns (l : List UInt8) (w : World) (e : Ending) (w' : World) : Prop :=
  Below w.heap.size w w' ∧ match lex (l.length + 1) l 0 with
  | (ts, none) => ∃ g cap, e = .returned (.tuple #[.slice (some ⟨g, 0, none⟩) ts.length cap, .int .i64 0, .bool true]) ∧ w'.ownsRow w.heap.size 160 4 (.slice (some ⟨g, 0, none⟩) ts.length cap) ts.length (wCells ts)
  | (_, some p) => e = .returned (.tuple #[.slice none 0 0, .int .i64 p, .bool false])

set_option maxHeartbeats 2000000 in
theorem split_any (l : List UInt8) (w : World) (hW : Wd w) (hl : l.length ≤ 1000) :
    Calls Tryz.prog 55 #[S l] w fun e w' => SplitAns l w e w' := by
  obtain ⟨i0, hi, hz0, hz1, hz2⟩ := info_parts info_pword
  have HP := pastBlanks_any l 0 w hl (Nat.zero_le _)
  go_enter Tryz.func55, Tryz.ntmps55
  go_wp2_with fail
  refine HP.mono ?_
  rintro e w' ⟨rfl, rfl⟩
  clear HP
  have hst := stop_le isB l 0 (Nat.zero_le _)
  go_wp2_with fail
  go_loopw [5, 6] (fun v a wr => ∃ (ts : List Tok) (k f j : Nat), k ≤ j ∧ j ≤ l.length ∧ ts.length ≤ k ∧ a = .int .i64 j ∧ Hid (stop isB l k = j) ∧ l.length - k < f ∧ Hid (lex (l.length + 1) l 0 = (ts ++ (lex f l k).1, (lex f l k).2)) ∧ wr.ownsRow w'.heap.size 160 4 v ts.length (wCells ts) ∧ Below w'.heap.size w' wr) (fun _ a _ => l.length - (intOf a).toNat)
  case atStart => exact ⟨[], 0, l.length + 1, _, by omega, hst, by simp, rfl, rfl, by omega, rfl, World.ownsRow_nil _ _ _ _, Below.refl _ _⟩
  case round =>
    obtain ⟨ts, k, f, j, hkj, hj, htk, rfl, HB, hf, HS, hown, hbw⟩ := hrel
    have hWr : Hid _ := hW.below hbw
    by_cases hlt : j < l.length
    · have hlen : (l.drop j).length ≤ 1000 := by simp; omega
      have hlen2 : 0 < (l.drop j).length := by simp; omega
      rcases firstV_spec l j hlt with ⟨hwt, hfv⟩ | ⟨t, hwt, hfv, htl⟩
      · have HW : Hid _ := hwt
        have HI := first_any (l.drop j) wr hWr.out hlen hlen2
        rw [hfv] at HI
        clear hwt hfv hlen hlen2
        go_wp2_with fail
        rw [cut_ex, cut_from]
        refine HI.mono ?_
        rintro e w1 ⟨rfl, hb⟩
        clear HI
        go_wp2_with fail
        refine bodyPost_ret (v := .tuple #[.slice none 0 0, .int .i64 j, .bool false]) (by simp [results, Tryz.results55, go_sem]) rfl ?_
        refine ⟨(hbw.trans (hb.mono hbw.size)).alloc (by have := hb.size; have := hbw.size; omega) _, ?_⟩
        rw [HS.out, lex_none l k f j (by omega) hlt HB.out HW.out]
      · have HW : Hid _ := hwt
        have HI := first_any (l.drop j) wr hWr.out hlen hlen2
        rw [hfv] at HI
        unfold wordV at HI
        obtain ⟨ht1, ht2, ht3, ht4⟩ := wordAt_len hlt hwt
        have H3 : Hid _ := ht3
        have HP := fun w => pastBlanks_any l (j + t.text.length) w hl ht2
        have hst2 := stop_le isB l (j + t.text.length) ht2
        have hst3 := stop_ge isB l (j + t.text.length)
        clear hwt hfv hlen hlen2 ht3
        go_wp2_with fail
        rw [cut_ex, cut_from]
        refine HI.mono ?_
        rintro e w1 ⟨rfl, hb⟩
        clear HI
        have hbw1 : Below w'.heap.size w' w1 := hbw.trans (hb.mono hbw.size)
        have hown1 := ownsRow_below hown hb
        have hs1 := hb.size
        have hs0 := hbw.size
        go_wp2_with (
          at_builtin
          go_must (refine wpList_append_lies _ (by rfl) _ _ 137 (by rfl) w'.heap.size 160 i0 (.agg #[.int .i64 0, .int .i64 0, .int .i64 0, .string ⟨#[]⟩]) 4 40 Tryz.underlying137 hi hz0 hz1 hz2 (by rfl) (by decide) _ _ _ (by rfl) ((hown1.alloc _).alloc _) ⟨w1.heap.size + 1, 0, none⟩ 1 1 [.int .i64 (kindOf t), .int .i64 j, .int .i64 (nmOf t), S (ownOf t)] (by rfl) (by rfl) (cell_four_new2 _ _ _ _ _ _ _) (fun x hx => by simp at hx; rcases hx with rfl | rfl | rfl | rfl <;> rfl) (by decide) (by unfold maxLen; omega) (by omega) (by simp; omega) _ rfl ?_)
          intro g cap w3 hown3 hgrow3 hat hlt3
          have hbw3 := below_far hbw1 hown1 hgrow3
          clear hgrow3 hat)
        refine (HP _).mono ?_
        rintro e w4 ⟨rfl, rfl⟩
        clear HP
        generalize hj2 : stop isB l (j + t.text.length) = j2 at hst2 hst3 ⊢
        have HJ : Hid _ := hj2
        clear hj2
        go_wp2_with fail
        go_roundw
        case rel =>
          obtain ⟨f, rfl⟩ : ∃ f', f = f' + 1 := ⟨f - 1, by omega⟩
          refine ⟨ts ++ [t], j + t.text.length, f, _, hst3, hst2, by simp; omega, rfl, HJ.out, by omega, ?_, ?_, hbw3⟩
          · show _ = _
            rw [HS.out, lex_some l k f j t hlt HB.out HW.out]; simp
          · rw [wCells_snoc, H3.out]; simpa using hown3
        case measure => simp [intOf]; omega
    · have hjl : j = l.length := by omega
      subst hjl
      have hs0 := hbw.size
      go_wp2_with (
        at_builtin
        go_must (refine wpList_append_lies _ (by rfl) _ _ 137 (by rfl) w'.heap.size 160 i0 (.agg #[.int .i64 0, .int .i64 0, .int .i64 0, .string ⟨#[]⟩]) 4 40 Tryz.underlying137 hi hz0 hz1 hz2 (by rfl) (by decide) _ _ _ (by rfl) (hown.alloc _) ⟨wr.heap.size, 0, none⟩ 1 1 [.int .i64 0, .int .i64 l.length, .int .i64 0, S []] (by rfl) (by rfl) (cell_four_new _ _ _ _ _ _) (fun x hx => by simp at hx; rcases hx with rfl | rfl | rfl | rfl <;> rfl) (by decide) (by unfold maxLen; omega) (by omega) (by simp; omega) _ rfl ?_)
        intro g cap w3 hown3 hgrow3 hat hlt3)
      refine bodyPost_ret (v := .tuple #[.slice (some ⟨g, 0, none⟩) (ts.length + 1) cap, .int .i64 0, .bool true]) (by simp [results, Tryz.results55, go_sem]) rfl ?_
      refine ⟨below_far1 hbw hown hgrow3, ?_⟩
      rw [HS.out, lex_end l k f (by omega) HB.out]
      exact ⟨g, cap, by simp, by rw [wCells_snoc]; simpa [kindOf, nmOf, ownOf] using hown3⟩
end Go.Proofs.YtfkdailfcmnjlaaGreatDoor

namespace Go.Proofs.YtfkdailfcmnjlaaGreatDoor
open Go Go.RowKit
set_option maxRecDepth 100000

/-- The reader's state: the next word, has it failed, at which place. -/
structure Q where
  i : Nat
  bad : Bool
  pl : Nat

def rdObj (gl n cl : Nat) (s : Q) : Obj := .cells #[.slice (some ⟨gl, 0, none⟩) n cl, .int .i64 s.i, .bool s.bad, .int .i64 s.pl] 213 (0, 0)
/-- The reader's memory. -/
structure RR (rb gl cl : Nat) (ts : List Tok) (s : Q) (w : World) : Prop where
  rd : w.heap[rb]? = some (rdObj gl ts.length cl s)
  wl : ∃ cs, w.heap[gl]? = some (.cells cs 160 (0, 0))
  wc : ∀ i, i < ts.length → w.cell? ⟨gl, i * 4, none⟩ = some (.int .i64 (kindOf (tokAt ts i))) ∧ w.cell? ⟨gl, i * 4 + 1, none⟩ = some (.int .i64 (tokAt ts i).pl) ∧ w.cell? ⟨gl, i * 4 + 2, none⟩ = some (.int .i64 (nmOf (tokAt ts i))) ∧ w.cell? ⟨gl, i * 4 + 3, none⟩ = some (S (ownOf (tokAt ts i)))
  lt : s.i < ts.length
  nb : ts.length ≤ 1001
  fin : kindOf (tokAt ts (ts.length - 1)) = 0

theorem RR.cells {rb gl cl : Nat} {ts : List Tok} {s : Q} {w : World} (h : RR rb gl cl ts s w) : (w.cell? ⟨rb, 0, none⟩ = some (.slice (some ⟨gl, 0, none⟩) ts.length cl) ∧ w.cell? ⟨rb, 1, none⟩ = some (.int .i64 s.i) ∧ w.cell? ⟨rb, 2, none⟩ = some (.bool s.bad) ∧ w.cell? ⟨rb, 3, none⟩ = some (.int .i64 s.pl)) ∧ ∀ j, w.frozen? ⟨rb, j, none⟩ = false := by
  have hc := fun j => cell_of_row w rb j _ _ _ h.rd
  exact ⟨⟨hc 0, hc 1, hc 2, hc 3⟩, fun j => by simp [World.frozen?, h.rd, rdObj]⟩

set_option maxHeartbeats 1000000 in
theorem kind_any {rb gl cl : Nat} {ts : List Tok} {s : Q} {w : World} (h : RR rb gl cl ts s w) :
    Calls Tryz.prog 103 #[.pointer (some ⟨rb, 0, none⟩)] w fun e w' => e = .returned (.int .i64 (kindOf (tokAt ts s.i))) ∧ w' = w.drew := by
  obtain ⟨⟨r0, r1, r2, r3⟩, rf⟩ := h.cells
  obtain ⟨c0, c1, c2, c3⟩ := h.wc s.i h.lt
  have hlt := h.lt
  have hnb := h.nb
  clear h
  generalize kindOf (tokAt ts s.i) = kd at *
  go_enter Tryz.func103, Tryz.ntmps103
  go_wp2
  go_region_held (fun w' => w'.cell? ⟨rb, 0, none⟩ = some (.slice (some ⟨gl, 0, none⟩) ts.length cl) ∧ w'.cell? ⟨rb, 1, none⟩ = some (.int .i64 s.i) ∧ w'.cell? ⟨gl, s.i * 4, none⟩ = some (.int .i64 kd)) (go_keep) (fail)
  go_wp2
  go_ret
  exact ⟨rfl, rfl⟩

/-- What the reader leaves as it was: all but itself. -/
structure PF (rb : Nat) (w w' : World) : Prop where
  os : w'.os = w.os
  tape : w'.tape = w.tape
  output : w'.output = w.output
  size : w.heap.size ≤ w'.heap.size
  block : ∀ k, k < w.heap.size → k ≠ rb → w'.heap[k]? = w.heap[k]?
theorem PF.refl (rb : Nat) (w : World) : PF rb w w := ⟨rfl, rfl, rfl, Nat.le_refl _, fun _ _ _ => rfl⟩
theorem PF.trans {rb : Nat} {w w1 w2 : World} (h : PF rb w w1) (k : PF rb w1 w2) : PF rb w w2 :=
  ⟨k.os.trans h.os, k.tape.trans h.tape, k.output.trans h.output, Nat.le_trans h.size k.size, fun j hj h1 => (k.block j (Nat.lt_of_lt_of_le hj h.size) h1).trans (h.block j hj h1)⟩
theorem PF.drew {rb : Nat} {w w1 : World} (h : PF rb w w1) : PF rb w w1.drew := ⟨h.os, h.tape, h.output, h.size, h.block⟩
theorem PF.of_below {rb : Nat} {w w' : World} (h : Below w.heap.size w w') : PF rb w w' := ⟨h.os, h.tape, h.output, h.size, fun k hk _ => h.block k hk⟩
theorem PF.set {rb : Nat} {w w' : World} (h : PF rb w w') (j : Nat) (v : Value) : PF rb w (w'.setCell ⟨rb, j, none⟩ v) :=
  ⟨h.os, h.tape, h.output, by simpa using h.size, fun k hk h1 => by rw [Below.heap_setCell _ _ _ _ (by simpa using h1)]; exact h.block k hk h1⟩
theorem PF.alloc {rb : Nat} {w w' : World} (h : PF rb w w') (o : Obj) : PF rb w (w'.alloc o) :=
  ⟨h.os, h.tape, h.output, by simp; have := h.size; omega, fun k hk h1 => by rw [Below.heap_alloc _ _ _ (Nat.lt_of_lt_of_le hk h.size)]; exact h.block k hk h1⟩

theorem RR.ne {rb gl cl : Nat} {ts : List Tok} {s : Q} {w : World} (h : RR rb gl cl ts s w) : gl ≠ rb := fun e => by
  obtain ⟨cs, hc⟩ := h.wl
  rw [e, h.rd] at hc; simp [rdObj] at hc
theorem RR.rlt {rb gl cl : Nat} {ts : List Tok} {s : Q} {w : World} (h : RR rb gl cl ts s w) : rb < w.heap.size := lt_of_get h.rd
theorem RR.glt {rb gl cl : Nat} {ts : List Tok} {s : Q} {w : World} (h : RR rb gl cl ts s w) : gl < w.heap.size := lt_of_get h.wl.choose_spec
/-- The words lie as they lay. -/
theorem RR.move {rb gl cl : Nat} {ts : List Tok} {s s' : Q} {w w' : World} (h : RR rb gl cl ts s w) (hg : w'.heap[gl]? = w.heap[gl]?) (hr : w'.heap[rb]? = some (rdObj gl ts.length cl s')) (hl : s'.i < ts.length) : RR rb gl cl ts s' w' :=
  ⟨hr, by rw [hg]; exact h.wl, fun i hi => by
    have e : ∀ j, w'.cell? ⟨gl, j, none⟩ = w.cell? ⟨gl, j, none⟩ := fun j => World.cell?_of_block (w := w) hg
    rw [e, e, e, e]; exact h.wc i hi, hl, h.nb, h.fin⟩
theorem RR.below {rb gl cl : Nat} {ts : List Tok} {s : Q} {w w' : World} (h : RR rb gl cl ts s w) (hb : Below w.heap.size w w') : RR rb gl cl ts s w' :=
  h.move (hb.block _ h.glt) (by rw [hb.block _ h.rlt]; exact h.rd) h.lt
theorem RR.drew {rb gl cl : Nat} {ts : List Tok} {s : Q} {w : World} (h : RR rb gl cl ts s w) : RR rb gl cl ts s w.drew := h.move rfl h.rd h.lt
theorem RR.alloc {rb gl cl : Nat} {ts : List Tok} {s : Q} {w : World} (h : RR rb gl cl ts s w) (o : Obj) : RR rb gl cl ts s (w.alloc o) :=
  h.below ((Below.refl _ _).alloc (Nat.le_refl _) o)
theorem RR.set {rb gl cl : Nat} {ts : List Tok} {s : Q} {w : World} (h : RR rb gl cl ts s w) (s' : Q) (j : Nat) (v : Value) (e : (#[.slice (some ⟨gl, 0, none⟩) ts.length cl, .int .i64 s.i, .bool s.bad, .int .i64 s.pl] : Array Value).setIfInBounds j v = #[.slice (some ⟨gl, 0, none⟩) ts.length cl, .int .i64 s'.i, .bool s'.bad, .int .i64 s'.pl]) (hl : s'.i < ts.length) : RR rb gl cl ts s' (w.setCell ⟨rb, j, none⟩ v) :=
  h.move (Below.heap_setCell _ _ _ _ (by simpa using h.ne)) (by rw [heap_setCell_same w rb j _ _ v h.rd, e]; rfl) hl
end Go.Proofs.YtfkdailfcmnjlaaGreatDoor

namespace Go.Proofs.YtfkdailfcmnjlaaGreatDoor
open Go Go.RowKit
set_option maxRecDepth 100000
attribute [local go_sem ↓] Go.wp_at_zero Go.wp_at_succ

theorem RR.other {rb gl cl : Nat} {ts : List Tok} {s : Q} {w : World} (h : RR rb gl cl ts s w) {b : Nat} (h1 : b ≠ rb) (h2 : b ≠ gl) (j : Nat) (v : Value) : RR rb gl cl ts s (w.setCell ⟨b, j, none⟩ v) :=
  h.move (Below.heap_setCell _ _ _ _ (by simpa using h2.symm)) (by rw [Below.heap_setCell _ _ _ _ (by simpa using h1.symm)]; exact h.rd) h.lt
theorem PF.new {rb : Nat} {w w' : World} (h : PF rb w w') {b : Nat} (hb : w.heap.size ≤ b) (j : Nat) (v : Value) : PF rb w (w'.setCell ⟨b, j, none⟩ v) :=
  ⟨h.os, h.tape, h.output, by simpa using h.size, fun k hk h1 => by rw [Below.heap_setCell _ _ _ _ (by simp; omega)]; exact h.block k hk h1⟩
set_option maxHeartbeats 2000000 in
theorem take_any {rb gl cl : Nat} {ts : List Tok} {s : Q} {w : World} (h : RR rb gl cl ts s w) (hi : s.i + 1 < ts.length) :
    Calls Tryz.prog 212 #[.pointer (some ⟨rb, 0, none⟩)] w fun e w' => e = .returned (wordV (tokAt ts s.i) (tokAt ts s.i).pl) ∧ RR rb gl cl ts { s with i := s.i + 1 } w' ∧ PF rb w w' := by
  have hnb := h.nb
  have h1 := h.alloc (.cells #[.int .i64 0, .int .i64 0, .int .i64 0, .string ⟨#[]⟩] 160)
  have hbox : (w.alloc (.cells #[.int .i64 0, .int .i64 0, .int .i64 0, .string ⟨#[]⟩] 160)).heap[w.heap.size]? = some (.cells #[.int .i64 0, .int .i64 0, .int .i64 0, .string ⟨#[]⟩] 160) := heap_alloc_new w _
  have hF : PF rb w (w.alloc (.cells #[.int .i64 0, .int .i64 0, .int .i64 0, .string ⟨#[]⟩] 160)) := (PF.refl rb w).alloc _
  have hrl := h.rlt
  have hgl := h.glt
  clear h
  go_enter Tryz.func212, Tryz.ntmps212
  go_wp2
  generalize w.alloc (.cells #[.int .i64 0, .int .i64 0, .int .i64 0, .string ⟨#[]⟩] 160) = w1 at *
  obtain ⟨⟨r0, r1, r2, r3⟩, rf⟩ := h1.cells
  obtain ⟨c0, c1, c2, c3⟩ := h1.wc s.i h1.lt
  have hlt := h1.lt
  have n0 := World.new_ne w1 _ r0
  have n1 := World.new_ne w1 _ r1
  have m0 := World.new_ne w1 _ c0
  have m1 := World.new_ne w1 _ c1
  have m2 := World.new_ne w1 _ c2
  have m3 := World.new_ne w1 _ c3
  have H1 : Hid _ := h1
  have HF : Hid _ := hF
  have HX : Hid _ := hbox
  clear h1 hF hbox r2 r3
  generalize hk : kindOf (tokAt ts s.i) = tk at *
  generalize hp : (tokAt ts s.i).pl = tp at *
  generalize hm : nmOf (tokAt ts s.i) = tm at *
  generalize ho : ownOf (tokAt ts s.i) = tt at *
  have HK : Hid _ := hk
  have HP : Hid _ := hp
  have HM : Hid _ := hm
  have HO : Hid _ := ho
  clear hk hp hm ho
  go_region_held (fun w' => w'.cell? ⟨rb, 0, none⟩ = some (.slice (some ⟨gl, 0, none⟩) ts.length cl) ∧ w'.cell? ⟨rb, 1, none⟩ = some (.int .i64 s.i) ∧ w'.cell? ⟨gl, s.i * 4, none⟩ = some (.int .i64 tk) ∧ w'.cell? ⟨gl, s.i * 4 + 1, none⟩ = some (.int .i64 tp) ∧ w'.cell? ⟨gl, s.i * 4 + 2, none⟩ = some (.int .i64 tm) ∧ w'.cell? ⟨gl, s.i * 4 + 3, none⟩ = some (S tt)) (go_keep) (fail)
  rename_i hHeld
  clear hHeld r0 r1 rf c0 c1 c2 c3 n0 n1 m0 m1 m2 m3
  have h2 := (H1.out.alloc (wvObj tk tp tm tt)).drew
  have F2 := (HF.out.alloc (wvObj tk tp tm tt)).drew
  have hx2 : (w1.alloc (wvObj tk tp tm tt)).drew.heap[w1.heap.size]? = some (wvObj tk tp tm tt) := heap_alloc_new w1 _
  have hl1 : w.heap.size < w1.heap.size := lt_of_get HX.out
  have hy2 : (w1.alloc (wvObj tk tp tm tt)).drew.heap[w.heap.size]? = some (wvObj 0 0 0 []) := by
    show (w1.alloc (wvObj tk tp tm tt)).heap[w.heap.size]? = _
    rw [Below.heap_alloc _ _ _ hl1]; exact HX.out
  have e1 : w1.heap.size ≠ rb := by omega
  have e2 : w.heap.size ≠ rb := by omega
  have e3 : w.heap.size ≠ w1.heap.size := by omega
  unfold wvObj at h2 F2 hx2 hy2
  clear HX HF H1
  show Exit.then _ _ _ _ ((w1.alloc (.cells #[.int .i64 tk, .int .i64 tp, .int .i64 tm, S tt] 160 (0, 0))).drew)
  generalize (w1.alloc (.cells #[.int .i64 tk, .int .i64 tp, .int .i64 tm, S tt] 160 (0, 0))).drew = w2 at *
  have hge : w.heap.size ≤ w.heap.size := Nat.le_refl _
  generalize w1.heap.size = bx at *
  generalize hby : w.heap.size = bn at e2 e3 hl1 hy2 hrl hgl ⊢
  have HBY : Hid _ := hby
  clear hby
  obtain ⟨⟨r0, r1, r2, r3⟩, rf⟩ := h2.cells
  obtain ⟨⟨x0, x1, x2, x3⟩, xf⟩ := wv_cells hx2
  obtain ⟨⟨y0, y1, y2, y3⟩, yf⟩ := wv_cells hy2
  have H2 : Hid _ := h2
  have HF : Hid _ := F2
  clear h2 F2 hx2 hy2
  have e1' := e1.symm
  have e2' := e2.symm
  have e3' := e3.symm
  go_wp2
  have hbn : w.heap.size ≤ bn := Nat.le_of_eq HBY.out
  have hg : bn ≠ gl := by omega
  refine bodyPost_ret (v := .agg #[.int .i64 tk, .int .i64 tp, .int .i64 tm, S tt]) (by simp [results, Tryz.results212, go_sem, y0, y1, y2, y3, yf, e2, e2']) rfl ⟨?_, ?_, ?_⟩
  · unfold wordV; rw [HK.out, HP.out, HM.out, HO.out]
  · exact (((((H2.out.set { s with i := s.i + 1 } 1 _ (by simp) hi).other e2 hg _ _).other e2 hg _ _).other e2 hg _ _).other e2 hg _ _)
  · exact ((((HF.out.set 1 _).new hbn _ _).new hbn _ _).new hbn _ _).new hbn _ _
/-- The state behind a failure. -/
def failQ (ts : List Tok) (s : Q) : Q := ⟨ts.length - 1, true, if s.bad then s.pl else (tokAt ts s.i).pl⟩
set_option maxHeartbeats 2000000 in
theorem fail_any {rb gl cl : Nat} {ts : List Tok} {s : Q} {w : World} (h : RR rb gl cl ts s w) :
    Calls Tryz.prog 211 #[.pointer (some ⟨rb, 0, none⟩)] w fun e w' => e = .returned (.tuple #[]) ∧ RR rb gl cl ts (failQ ts s) w' ∧ PF rb w w' := by
  obtain ⟨⟨r0, r1, r2, r3⟩, rf⟩ := h.cells
  obtain ⟨c0, c1, c2, c3⟩ := h.wc s.i h.lt
  have hlt := h.lt
  have hnb := h.nb
  have H : Hid _ := h
  clear h
  cases hb : s.bad with
  | true =>
    rw [hb] at r2
    have HB : Hid _ := hb
    clear hb
    go_enter Tryz.func211, Tryz.ntmps211
    go_wp2
    go_end0
    refine ⟨rfl, ?_, (PF.refl _ _).set _ _⟩
    exact H.out.set (failQ ts s) 1 _ (by simp [failQ, HB.out]; omega) (by simp [failQ]; omega)
  | false =>
    rw [hb] at r2
    have HB : Hid _ := hb
    clear hb
    go_enter Tryz.func211, Tryz.ntmps211
    go_wp2
    have h1 := H.out.set { s with bad := true } 2 (.bool true) (by simp) hlt
    have F1 := (PF.refl rb w).set 2 (.bool true)
    clear r0 r1 r2 r3 rf c0 c1 c2 c3
    generalize w.setCell ⟨rb, 2, none⟩ (.bool true) = w1 at *
    obtain ⟨⟨r0, r1, r2, r3⟩, rf⟩ := h1.cells
    obtain ⟨c0, c1, c2, c3⟩ := h1.wc s.i hlt
    have rf3 := rf 3
    have hne := h1.ne
    have hne' := hne.symm
    have H1 : Hid _ := h1
    have HF : Hid _ := F1
    clear h1 F1
    generalize hp : (tokAt ts s.i).pl = tp at *
    have HP : Hid _ := hp
    clear hp
    simp only [] at r1 r2 r3
    have hkeep : (w1.setCell ⟨rb, 3, none⟩ (.int .i64 tp)).drew.cell? ⟨rb, 0, none⟩ = some (.slice (some ⟨gl, 0, none⟩) ts.length cl) ∧ (w1.setCell ⟨rb, 3, none⟩ (.int .i64 tp)).drew.cell? ⟨rb, 1, none⟩ = some (.int .i64 s.i) ∧ (w1.setCell ⟨rb, 3, none⟩ (.int .i64 tp)).drew.cell? ⟨gl, s.i * 4 + 1, none⟩ = some (.int .i64 tp) := by
      simp [go_sem, r0, r1, c1, hne, hne']
    go_region_held (fun w' => w'.cell? ⟨rb, 0, none⟩ = some (.slice (some ⟨gl, 0, none⟩) ts.length cl) ∧ w'.cell? ⟨rb, 1, none⟩ = some (.int .i64 s.i) ∧ w'.cell? ⟨gl, s.i * 4 + 1, none⟩ = some (.int .i64 tp)) (first | exact hkeep | go_keep) (fail)
    rename_i hHeld
    clear hHeld hkeep r0 r1 r2 r3 rf rf3 c0 c1 c2 c3
    have h2 := (H1.out.set { s with bad := true, pl := tp } 3 (.int .i64 tp) (by simp) hlt).drew
    have F2 := (HF.out.set 3 (.int .i64 tp)).drew
    clear H1 HF
    generalize (w1.setCell ⟨rb, 3, none⟩ (.int .i64 tp)).drew = w2 at *
    obtain ⟨⟨r0, r1, r2, r3⟩, rf⟩ := h2.cells
    have H2 : Hid _ := h2
    have HF : Hid _ := F2
    clear h2 F2
    go_wp2
    go_end0
    refine ⟨rfl, ?_, HF.out.set _ _⟩
    exact H2.out.set (failQ ts s) 1 _ (by simp [failQ, HB.out, HP.out]; omega) (by simp [failQ]; omega)
end Go.Proofs.YtfkdailfcmnjlaaGreatDoor

namespace Go.Proofs.YtfkdailfcmnjlaaGreatDoor
open Go Go.RowKit
set_option maxRecDepth 100000
attribute [local go_sem ↓] Go.wp_at_zero Go.wp_at_succ

set_option maxHeartbeats 1000000 in
theorem kindIndex_any (ks : List Nat) (v : Nat) (b : Nat) (w : World) (hl : ks.length ≤ 100)
    (hc : ∀ j, j < ks.length → w.cell? ⟨b, j, none⟩ = some (.int .i64 (ks.getD j 0))) :
    Calls Tryz.prog 245 #[.slice (some ⟨b, 0, none⟩) ks.length ks.length, .int .i64 v] w fun e w' => (∃ r : Int, e = .returned (.int .i64 r) ∧ -1 ≤ r ∧ r ≤ 1000 ∧ (decide (0 ≤ r) = ks.contains v)) ∧ w' = w := by
  have HC : Hid _ := hc
  clear hc
  go_enter Tryz.func245, Tryz.ntmps245
  go_wp2
  go_loop [8] (fun i => ∃ k : Nat, k ≤ ks.length ∧ i = .int .i64 k ∧ Hid (∀ q, q < k → ks.getD q 0 ≠ v)) (fun i => ks.length - (intOf i).toNat)
  case atStart => exact ⟨0, Nat.zero_le _, rfl, fun q hq => by omega⟩
  case round =>
    obtain ⟨k, hk, rfl, HQ⟩ := hrel
    by_cases hlt : k < ks.length
    · have hcell := HC.out k hlt
      have hmem : Hid (ks.getD k 0 ∈ ks) := by rw [List.getD_eq_getElem?_getD, List.getElem?_eq_getElem hlt]; exact List.getElem_mem hlt
      have HG : Hid (∀ x, ks.getD k 0 = x → ks.getD k 0 = x) := fun _ h => h
      generalize hx : ks.getD k 0 = x at hcell hmem
      have HX : Hid _ := hx
      clear hx HG
      by_cases hv : v = x
      · subst hv
        go_wp2
        go_ret
        refine ⟨⟨k, rfl, by omega, by omega, ?_⟩, rfl⟩
        simp [hmem.out]
      · have hv' : ¬ ((v : Int) = (x : Int)) := by omega
        have hv2 : ((v : Int) == (x : Int)) = false := by simpa using hv'
        have HV : Hid _ := hv
        clear hv
        go_wp2
        refine ⟨⟨k + 1, by omega, by go_num, fun q hq => ?_⟩, by simp [intOf]; omega⟩
        by_cases e : q = k
        · rw [e, HX.out]; exact fun e => HV.out e.symm
        · exact HQ.out q (by omega)
    · go_wp2
      go_ret
      refine ⟨⟨-1, rfl, by omega, by omega, ?_⟩, rfl⟩
      have hno : v ∉ ks := fun e => by
        obtain ⟨j, hj, hj2⟩ := List.mem_iff_getElem.1 e
        exact HQ.out j (by omega) (by rw [List.getD_eq_getElem?_getD, List.getElem?_eq_getElem hj]; exact hj2)
      simp [hno]
set_option maxHeartbeats 1000000 in
theorem contains_any (ks : List Nat) (v : Nat) (b : Nat) (w : World) (hl : ks.length ≤ 100)
    (hc : ∀ j, j < ks.length → w.cell? ⟨b, j, none⟩ = some (.int .i64 (ks.getD j 0))) :
    Calls Tryz.prog 210 #[.slice (some ⟨b, 0, none⟩) ks.length ks.length, .int .i64 v] w fun e w' => e = .returned (.bool (ks.contains v)) ∧ w' = w := by
  have HI := kindIndex_any ks v b w hl hc
  clear hc
  go_enter Tryz.func210, Tryz.ntmps210
  go_wp2_with fail
  refine HI.mono ?_
  rintro e w' ⟨⟨r, rfl, h1, h2, h3⟩, rfl⟩
  have H3 : Hid _ := h3
  clear HI h3
  go_wp2_with fail
  go_ret
  exact ⟨ret_bool H3.out, rfl⟩
end Go.Proofs.YtfkdailfcmnjlaaGreatDoor

namespace Go.Proofs.YtfkdailfcmnjlaaGreatDoor
open Go Go.RowKit
set_option maxRecDepth 100000
attribute [local go_sem ↓] Go.wp_at_zero Go.wp_at_succ

theorem RR.more {rb gl cl : Nat} {ts : List Tok} {s : Q} {w : World} (h : RR rb gl cl ts s w) (hk : kindOf (tokAt ts s.i) ≠ 0) : s.i + 1 < ts.length := by
  rcases Nat.lt_or_ge (s.i + 1) ts.length with h1 | h1
  · exact h1
  · have := h.lt
    have e : s.i = ts.length - 1 := by omega
    rw [e] at hk; exact absurd h.fin hk
/-- What 'want' answers, and the state behind it. -/
def wantV (ts : List Tok) (s : Q) (ks : List Nat) : Value := if ks.contains (kindOf (tokAt ts s.i)) then wordV (tokAt ts s.i) (tokAt ts s.i).pl else .agg #[.int .i64 0, .int .i64 0, .int .i64 0, S []]
def wantQ (ts : List Tok) (s : Q) (ks : List Nat) : Q := if ks.contains (kindOf (tokAt ts s.i)) then { s with i := s.i + 1 } else failQ ts s

set_option maxHeartbeats 2000000 in
theorem want_any {rb gl cl : Nat} {ts : List Tok} {s : Q} {w : World} (h : RR rb gl cl ts s w) (ks : List Nat) (b : Nat) (hl : ks.length ≤ 100) (h0 : 0 ∉ ks)
    (hc : ∀ j, j < ks.length → w.cell? ⟨b, j, none⟩ = some (.int .i64 (ks.getD j 0))) :
    Calls Tryz.prog 151 #[.pointer (some ⟨rb, 0, none⟩), .slice (some ⟨b, 0, none⟩) ks.length ks.length] w fun e w' => e = .returned (wantV ts s ks) ∧ RR rb gl cl ts (wantQ ts s ks) w' ∧ PF rb w w' := by
  have hnb := h.nb
  have h1 := h.alloc (.cells #[.int .i64 0, .int .i64 0, .int .i64 0, .string ⟨#[]⟩] 160)
  have hbox : (w.alloc (.cells #[.int .i64 0, .int .i64 0, .int .i64 0, .string ⟨#[]⟩] 160)).heap[w.heap.size]? = some (.cells #[.int .i64 0, .int .i64 0, .int .i64 0, .string ⟨#[]⟩] 160) := heap_alloc_new w _
  have hF : PF rb w (w.alloc (.cells #[.int .i64 0, .int .i64 0, .int .i64 0, .string ⟨#[]⟩] 160)) := (PF.refl rb w).alloc _
  have hc1 : ∀ j, j < ks.length → (w.alloc (.cells #[.int .i64 0, .int .i64 0, .int .i64 0, .string ⟨#[]⟩] 160)).cell? ⟨b, j, none⟩ = some (.int .i64 (ks.getD j 0)) := fun j hj => by
    rw [((Below.refl w.heap.size w).alloc (Nat.le_refl _) _).cell (p := ⟨b, j, none⟩) (World.block_lt_of_cell? w _ (hc j hj))]; exact hc j hj
  have hrl := h.rlt
  have hgl := h.glt
  have HC : Hid _ := hc1
  have H1 : Hid _ := h1
  have HF : Hid _ := hF
  have HX : Hid _ := hbox
  clear h hc hc1 h1 hF hbox
  go_enter Tryz.func151, Tryz.ntmps151
  go_wp2_with fail
  generalize w.alloc (.cells #[.int .i64 0, .int .i64 0, .int .i64 0, .string ⟨#[]⟩] 160) = w1 at *
  refine (kind_any H1.out).mono ?_
  rintro e w' ⟨rfl, rfl⟩
  have hk0 : Hid (ks.contains (kindOf (tokAt ts s.i)) = true → s.i + 1 < ts.length) := fun e => H1.out.more fun e2 => by rw [e2, List.contains_iff_mem] at e; exact h0 e
  have HQ : Hid (wantQ ts s ks = wantQ ts s ks) := rfl
  have HCC := contains_any ks (kindOf (tokAt ts s.i)) b w1.drew hl HC.out
  have HV : Hid (wantV ts s ks = if ks.contains (kindOf (tokAt ts s.i)) then wordV (tokAt ts s.i) (tokAt ts s.i).pl else .agg #[.int .i64 0, .int .i64 0, .int .i64 0, S []]) := rfl
  have HW : Hid (wantQ ts s ks = if ks.contains (kindOf (tokAt ts s.i)) then { s with i := s.i + 1 } else failQ ts s) := rfl
  have h2 := H1.out.drew
  have F2 := HF.out.drew
  have hy2 : w1.drew.heap[w.heap.size]? = some (wvObj 0 0 0 []) := HX.out
  have hl1 : w.heap.size < w1.drew.heap.size := lt_of_get hy2
  clear H1 HF HX HC HQ h0
  generalize w1.drew = w2 at *
  generalize hkd : kindOf (tokAt ts s.i) = kd at *
  have HKD : Hid _ := hkd
  clear hkd
  have e2 : w.heap.size ≠ rb := by omega
  have e4 : w.heap.size ≠ gl := by omega
  cases hct : ks.contains kd with
  | true =>
    have HT : Hid _ := hct
    have hmore := hk0.out hct
    have HI := take_any h2 hmore
    have HY : Hid _ := hy2
    have HE : Hid _ := F2
    unfold wordV at HI
    rw [hct] at HCC
    clear hct hy2 h2 F2
    go_wp2_with fail
    refine HCC.mono ?_
    rintro e w' ⟨rfl, rfl⟩
    go_wp2_with fail
    refine HI.mono ?_
    rintro e w3 ⟨rfl, h3, F3⟩
    have hy3 : w3.heap[w.heap.size]? = some (wvObj 0 0 0 []) := by rw [F3.block _ hl1 e2]; exact HY.out
    have HE3 : Hid _ := HE.out.trans F3
    have H3 : Hid _ := h3
    clear HI HCC HY HE h3 F3 hl1
    generalize hby : w.heap.size = bn at e2 e4 hy3 ⊢
    have HBY : Hid _ := hby
    clear hby
    obtain ⟨⟨y0, y1, y2, y3⟩, yf⟩ := wv_cells hy3
    clear hy3
    go_wp2_with fail
    have hbn : w.heap.size ≤ bn := Nat.le_of_eq HBY.out
    refine bodyPost_ret (v := .agg #[.int .i64 (kindOf (tokAt ts s.i)), .int .i64 (tokAt ts s.i).pl, .int .i64 (nmOf (tokAt ts s.i)), S (ownOf (tokAt ts s.i))]) (by simp [results, Tryz.results151, go_sem, y0, y1, y2, y3, yf]) rfl ⟨?_, ?_, ?_⟩
    · rw [HV.out, HT.out]; rfl
    · rw [HW.out, HT.out]
      exact ((((H3.out.other e2 e4 _ _).other e2 e4 _ _).other e2 e4 _ _).other e2 e4 _ _)
    · exact ((((HE3.out.new hbn _ _).new hbn _ _).new hbn _ _).new hbn _ _)
  | false =>
    have HT : Hid _ := hct
    have HI := fail_any h2
    have HY : Hid _ := hy2
    have HE : Hid _ := F2
    rw [hct] at HCC
    clear hct hy2 h2 F2
    go_wp2_with fail
    refine HCC.mono ?_
    rintro e w' ⟨rfl, rfl⟩
    go_wp2_with fail
    refine HI.mono ?_
    rintro e w3 ⟨rfl, h3, F3⟩
    have hy3 : w3.heap[w.heap.size]? = some (wvObj 0 0 0 []) := by rw [F3.block _ hl1 e2]; exact HY.out
    have HE3 : Hid _ := HE.out.trans F3
    have H3 : Hid _ := h3
    clear HI HCC HY HE h3 F3 hl1
    generalize hby : w.heap.size = bn at e2 e4 hy3 ⊢
    have HBY : Hid _ := hby
    clear hby
    obtain ⟨⟨y0, y1, y2, y3⟩, yf⟩ := wv_cells hy3
    clear hy3
    go_wp2_with fail
    have hbn : w.heap.size ≤ bn := Nat.le_of_eq HBY.out
    refine bodyPost_ret (v := .agg #[.int .i64 0, .int .i64 0, .int .i64 0, S []]) (by simp [results, Tryz.results151, go_sem, y0, y1, y2, y3, yf]) rfl ⟨?_, ?_, ?_⟩
    · rw [HV.out, HT.out]; rfl
    · rw [HW.out, HT.out]
      exact ((((H3.out.other e2 e4 _ _).other e2 e4 _ _).other e2 e4 _ _).other e2 e4 _ _)
    · exact ((((HE3.out.new hbn _ _).new hbn _ _).new hbn _ _).new hbn _ _)
end Go.Proofs.YtfkdailfcmnjlaaGreatDoor

namespace Go.Proofs.YtfkdailfcmnjlaaGreatDoor
open Go Go.RowKit
set_option maxRecDepth 100000

/-- What the lexer makes. -/
def TokW (t : Tok) : Prop := t.k = 110 ∨ t.k = 111 ∨ t.k = 101 ∨ (t.k = 107 ∧ t.text ∈ spell.drop 11) ∨ (t.k = 115 ∧ t.text ∈ (spell.drop 3).take 8)

theorem kw_mem {x : List UInt8} (h : x ∈ spell.drop 11) : x ∈ spell.drop 3 := by
  rw [show spell.drop 11 = (spell.drop 3).drop 8 from by simp] at h
  exact List.mem_of_mem_drop h
theorem TokW.cases {t : Tok} (h : TokW t) : t.k = 110 ∨ t.k = 111 ∨ t.k = 101 ∨ ((t.k = 107 ∨ t.k = 115) ∧ t.text ∈ spell.drop 3) := by
  rcases h with h | h | h | ⟨h, hm⟩ | ⟨h, hm⟩
  · exact .inl h
  · exact .inr (.inl h)
  · exact .inr (.inr (.inl h))
  · exact .inr (.inr (.inr ⟨.inl h, kw_mem hm⟩))
  · exact .inr (.inr (.inr ⟨.inr h, List.mem_of_mem_take hm⟩))
theorem spell_idx : ∀ x ∈ spell.drop 3, ∀ y ∈ spell.drop 3, (idx spell x).toNat = (idx spell y).toNat → x = y := by decide
theorem spell_big : ∀ x ∈ spell.drop 3, 3 ≤ (idx spell x).toNat := by decide

/-- The number of a keyword or sign. -/
def kn (x : List UInt8) : Nat := (idx spell x).toNat
theorem kind_word {t : Tok} (h : (t.k = 107 ∨ t.k = 115)) : kindOf t = kn t.text := by
  unfold kindOf kn; rw [if_neg (by omega), if_neg (by omega), if_neg (by omega)]
theorem isW_iff {t : Tok} (h : TokW t) {x : List UInt8} (hx : x ∈ spell.drop 3) : isW t x = true ↔ kindOf t = kn x := by
  have hb := spell_big x hx
  unfold isW
  rcases h.cases with h | h | h | ⟨h, hm⟩
  · unfold kindOf; rw [if_pos h, h]; simp [kn]; omega
  · unfold kindOf; rw [if_neg (by omega), if_pos h, h]; simp [kn]; omega
  · unfold kindOf; rw [if_neg (by omega), if_neg (by omega), if_pos h, h]; simp [kn]; omega
  · rw [kind_word h]
    simp only [Bool.and_eq_true, Bool.or_eq_true, beq_iff_eq]
    constructor
    · rintro ⟨_, e⟩; rw [e]
    · intro e; exact ⟨h, spell_idx _ hm _ hx e⟩

theorem lex_tokW (l : List UInt8) (a : Nat) (ha : a < l.length) (t : Tok) (h : wordAt l a = some t) : TokW t := by
  unfold wordAt at h
  split at h
  · split at h
    · simp at h
    · simp at h; subst h; exact .inl rfl
  · split at h
    · split at h
      · rename_i hk
        simp at h; subst h
        exact .inr (.inr (.inr (.inl ⟨rfl, (isKw_iff _).1 hk⟩)))
      · split at h
        · simp at h; subst h; exact .inr (.inl rfl)
        · simp at h
    · rw [List.getElem?_eq_getElem ha] at h
      simp only at h
      split at h
      · split at h
        · simp at h; subst h; exact .inr (.inr (.inr (.inr ⟨rfl, show [60, 61] ∈ (spell.drop 3).take 8 from by decide⟩)))
        · simp at h; subst h; exact .inr (.inr (.inr (.inr ⟨rfl, show [60] ∈ (spell.drop 3).take 8 from by decide⟩)))
      · split at h
        · rename_i hc
          simp at h; subst h
          refine .inr (.inr (.inr (.inr ⟨rfl, ?_⟩)))
          have hx : ∀ c : UInt8, (c.toNat = 40 ∨ c.toNat = 41 ∨ c.toNat = 59 ∨ c.toNat = 43 ∨ c.toNat = 45 ∨ c.toNat = 61) → [c] ∈ (spell.drop 3).take 8 := by
            intro c hc
            rcases hc with hc | hc | hc | hc | hc | hc <;> (rw [toNat_eq _ _ (by omega)] at hc; subst hc; decide)
          exact hx _ hc
        · simp at h

/-- Does a kind stand alone? -/
def standsK (k : Nat) : Bool := decide (k = 1) || decide (k = 2) || (decide (20 ≤ k) && decide (k ≤ 35))
theorem stands_texts : ∀ x ∈ spell.drop 11, (decide (0 ≤ idx kMembers x) || decide (0 ≤ idx kFields x) || x == wTrue || x == wFalse) = standsK (kn x) := by decide
theorem stands_signs : ∀ x ∈ (spell.drop 3).take 8, standsK (kn x) = false := by decide

theorem alone_iff {t : Tok} (h : TokW t) : alone t = standsK (kindOf t) := by
  unfold alone
  rcases h with h | h | h | ⟨h, hm⟩ | ⟨h, hm⟩
  · unfold kindOf; rw [if_pos h, h]; rfl
  · unfold kindOf; rw [if_neg (by omega), if_pos h, h]; rfl
  · unfold kindOf; rw [if_neg (by omega), if_neg (by omega), if_pos h, h]; rfl
  · rw [kind_word (.inl h), ← stands_texts _ hm, h]; simp
  · rw [kind_word (.inr h), stands_signs _ hm, h]; rfl
set_option maxHeartbeats 400000 in
theorem standsAlone_any (k : Nat) (w : World) (hk : k ≤ 100) : Calls Tryz.prog 287 #[.int .i64 k] w fun e w' => e = .returned (.bool (standsK k)) ∧ w' = w := by
  have HE : Hid (standsK k = (decide (k = 1) || decide (k = 2) || (decide (20 ≤ k) && decide (k ≤ 35)))) := rfl
  go_enter Tryz.func287, Tryz.ntmps287
  go_wp2
  all_goals go_ret
  all_goals refine ⟨ret_bool ?_, rfl⟩
  all_goals rw [HE.out, Bool.eq_iff_iff]
  all_goals simp
  all_goals try simp at *
  all_goals omega
end Go.Proofs.YtfkdailfcmnjlaaGreatDoor

namespace Go.Proofs.YtfkdailfcmnjlaaGreatDoor
open Go Go.RowKit
set_option maxRecDepth 100000

/-- The kinds that join at a level, as the program lists them. -/
def joinK (n : Nat) : List Nat := if n = 0 then [17] else if n = 1 then [18] else if n = 3 then [8, 10, 9] else [6, 7]
theorem join_texts : ∀ n, n ≤ 4 → ∀ x ∈ spell.drop 3, decide (0 ≤ idx (signsOf n) x) = (joinK n).contains (kn x) := by
  intro n hn
  have h : ∀ n : Fin 5, ∀ x ∈ spell.drop 3, decide (0 ≤ idx (signsOf n.1) x) = (joinK n.1).contains (kn x) := by decide
  exact h ⟨n, by omega⟩
theorem joinK_small : ∀ n, n ≤ 4 → ∀ x ∈ joinK n, 3 ≤ x := by
  intro n hn
  have h : ∀ n : Fin 5, ∀ x ∈ joinK n.1, 3 ≤ x := by decide
  exact h ⟨n, by omega⟩
theorem joins_iff {n : Nat} (hn : n ≤ 4) {t : Tok} (h : TokW t) : joins n t = (joinK n).contains (kindOf t) := by
  have hno : ∀ k, k < 3 → (joinK n).contains k = false := fun k hk => by
    rw [Bool.eq_false_iff]; intro e; rw [List.contains_iff_mem] at e
    have := joinK_small n hn k e; omega
  unfold joins
  rcases h.cases with h | h | h | ⟨h, hm⟩
  · rw [show kindOf t = 1 from by unfold kindOf; rw [if_pos h], hno 1 (by omega), h]; simp
  · rw [show kindOf t = 2 from by unfold kindOf; rw [if_neg (by omega), if_pos h], hno 2 (by omega), h]; simp
  · rw [show kindOf t = 0 from by unfold kindOf; rw [if_neg (by omega), if_neg (by omega), if_pos h], hno 0 (by omega), h]; simp
  · rw [kind_word h, ← join_texts n hn _ hm]
    rcases h with h | h <;> rw [h] <;> simp

/-- A condition's block. -/
def cdObj (t : Tok) (u : Value) (n : Int) : Obj := .cells #[.int .i64 (kindOf t), .int .i64 t.pl, .int .i64 (nmOf t), S (ownOf t), u, .int .i64 n] 229 (0, 0)
/-- The list of what stands under a condition. -/
def UnderAt (w : World) (u : Value) (n : Nat) (bl : Nat → Nat) : Prop :=
  (n = 0 ∧ u = .slice none 0 0) ∨ (0 < n ∧ ∃ g, u = .slice (some ⟨g, 0, none⟩) n n ∧ w.heap[g]? = some (.cells ((List.range n).map fun j => Value.pointer (some ⟨bl j, 0, none⟩)).toArray 161 (0, 0)))

/-- The part of a list lies at a block, not below a bound, as the program's tree. -/
structure CondAt (L : List Pt) (lt : Nat) (w : World) (i b : Nat) : Prop where
  lay ::
  out : ∀ C : Nat → Nat → Prop, (∀ (i b : Nat) (u : Value) (bl : Nat → Nat), i < L.length → lt ≤ b → w.heap[b]? = some (cdObj (L.getD i noPt).tok u 0) → UnderAt w u (L.getD i noPt).subs.length bl →
    (∀ j, j < (L.getD i noPt).subs.length → (L.getD i noPt).subs.getD j 0 < i) → (∀ j, j < (L.getD i noPt).subs.length → C ((L.getD i noPt).subs.getD j 0) (bl j)) → C i b) → C i b
theorem CondAt.mk {L : List Pt} {lt : Nat} {w : World} (i b : Nat) (u : Value) (bl : Nat → Nat) (hi : i < L.length) (hlo : lt ≤ b) (hb : w.heap[b]? = some (cdObj (L.getD i noPt).tok u 0))
    (hu : UnderAt w u (L.getD i noPt).subs.length bl) (hlt : ∀ j, j < (L.getD i noPt).subs.length → (L.getD i noPt).subs.getD j 0 < i)
    (hs : ∀ j, j < (L.getD i noPt).subs.length → CondAt L lt w ((L.getD i noPt).subs.getD j 0) (bl j)) : CondAt L lt w i b :=
  ⟨fun C hC => hC i b u bl hi hlo hb hu hlt fun j hj => (hs j hj).out C hC⟩
theorem CondAt.ind {L : List Pt} {lt : Nat} {w : World} (M : Nat → Nat → Prop)
    (hM : ∀ (i b : Nat) (u : Value) (bl : Nat → Nat), i < L.length → lt ≤ b → w.heap[b]? = some (cdObj (L.getD i noPt).tok u 0) → UnderAt w u (L.getD i noPt).subs.length bl →
      (∀ j, j < (L.getD i noPt).subs.length → (L.getD i noPt).subs.getD j 0 < i) → (∀ j, j < (L.getD i noPt).subs.length → CondAt L lt w ((L.getD i noPt).subs.getD j 0) (bl j)) → (∀ j, j < (L.getD i noPt).subs.length → M ((L.getD i noPt).subs.getD j 0) (bl j)) → M i b)
    {i b : Nat} (h : CondAt L lt w i b) : M i b :=
  (h.out (fun i b => CondAt L lt w i b ∧ M i b) fun i b u bl hi hlo hb hu hlt hs => ⟨.mk i b u bl hi hlo hb hu hlt fun j hj => (hs j hj).1, hM i b u bl hi hlo hb hu hlt (fun j hj => (hs j hj).1) fun j hj => (hs j hj).2⟩).2

/-- The tree stays where no block of conditions or of lists of them turns. -/
theorem CondAt.keep {L : List Pt} {lt : Nat} {w w' : World} {i b : Nat} (h : CondAt L lt w i b)
    (hk : ∀ (k : Nat) (cs : Array Value) (ty : TypeId), w.heap[k]? = some (Obj.cells cs ty (0, 0)) → ty = 229 ∨ ty = 161 → w'.heap[k]? = w.heap[k]?) : CondAt L lt w' i b := by
  refine h.ind (fun i b => CondAt L lt w' i b) ?_
  · intro i b u bl hi hlo hb hu hlt hs ih
    refine .mk i b u bl hi hlo ?_ ?_ hlt ih
    · rw [hk b _ _ hb (.inl rfl)]; exact hb
    · rcases hu with hu | ⟨h0, g, h1, h2⟩
      · exact .inl hu
      · exact .inr ⟨h0, g, h1, by rw [hk g _ _ h2 (.inr rfl)]; exact h2⟩
theorem CondAt.pf {L : List Pt} {lt : Nat} {rb gl cl : Nat} {ts : List Tok} {s : Q} {w w' : World} {i b : Nat} (h : CondAt L lt w i b) (hr : RR rb gl cl ts s w) (hf : PF rb w w') : CondAt L lt w' i b :=
  h.keep fun k cs ty hk ht => hf.block k (lt_of_get hk) fun e => by
    rw [e, hr.rd] at hk
    simp only [rdObj, Option.some.injEq, Obj.cells.injEq] at hk
    have h1 := hk.2.1
    rw [← h1] at ht
    exact absurd ht (by decide)
theorem CondAt.more {L L' : List Pt} {lt : Nat} {w : World} {i b : Nat} (h : CondAt L lt w i b) (hl : L.length ≤ L'.length) (hg : ∀ k, k < L.length → L'.getD k noPt = L.getD k noPt) : CondAt L' lt w i b := by
  refine h.ind (fun i b => CondAt L' lt w i b) ?_
  · intro i b u bl hi hlo hb hu hlt hs ih
    have e := hg i hi
    exact .mk i b u bl (by omega) hlo (by rw [e]; exact hb) (by rw [e]; exact hu) (by rw [e]; exact hlt) (by rw [e]; exact ih)
theorem CondAt.put {L : List Pt} {lt : Nat} {w : World} {i b : Nat} (h : CondAt L lt w i b) (p : Pt) : CondAt (L ++ [p]) lt w i b :=
  h.more (by simp) (fun k hk => by simp [List.getD_eq_getElem?_getD, List.getElem?_append_left hk])
end Go.Proofs.YtfkdailfcmnjlaaGreatDoor

namespace Go.Proofs.YtfkdailfcmnjlaaGreatDoor
open Go Go.RowKit
set_option maxRecDepth 100000
attribute [local go_sem ↓] Go.wp_at_zero Go.wp_at_succ

theorem idx_le (l : List (List UInt8)) (s : List UInt8) : idx l s < l.length ∨ l = [] := by
  induction l with
  | nil => exact .inr rfl
  | cons x r ih =>
    left; unfold idx
    rcases ih with ih | ih
    · simp only [List.length_cons]
      split
      · omega
      · split <;> omega
    · subst ih; split <;> simp [idx]
theorem kind_le (t : Tok) : kindOf t ≤ 100 := by
  have h : idx spell t.text < 36 := by
    rcases idx_le spell t.text with h | h
    · exact h
    · simp [spell] at h
  unfold kindOf; split; omega; split; omega; split; omega; omega

/-- What reading a condition leaves. -/
def LeftC (rb gl cl : Nat) (ts : List Tok) (s : Q) (w : World) (r : Rd) (e : Ending) (w' : World) : Prop :=
  ∃ b, e = .returned (.pointer (some ⟨b, 0, none⟩)) ∧ PF rb w w' ∧ ((r.ok = true ∧ RR rb gl cl ts { s with i := r.i } w' ∧ CondAt r.L rb w' r.top b) ∨ (r.ok = false ∧ RR rb gl cl ts (failQ ts { s with i := r.i }) w'))
/-- What it leaves where it had failed. -/
def LeftE (rb gl cl : Nat) (ts : List Tok) (s : Q) (w : World) (e : Ending) (w' : World) : Prop :=
  ∃ b, e = .returned (.pointer (some ⟨b, 0, none⟩)) ∧ PF rb w w' ∧ RR rb gl cl ts s w'

theorem leaf_at (L : List Pt) (w : World) (t : Tok) (b : Nat) {lo : Nat} (hlo : lo ≤ b) (h : w.heap[b]? = some (cdObj t (.slice none 0 0) 0)) : CondAt (L ++ [⟨t, []⟩]) lo w L.length b := by
  have e : (L ++ [(⟨t, []⟩ : Pt)]).getD L.length noPt = ⟨t, []⟩ := by simp [List.getD_eq_getElem?_getD]
  exact .mk L.length b (.slice none 0 0) (fun _ => 0) (by simp) hlo (by rw [e]; exact h) (by rw [e]; exact .inl ⟨rfl, rfl⟩) (by rw [e]; intro j hj; simp at hj) (by rw [e]; intro j hj; simp at hj)

set_option maxHeartbeats 2000000 in
theorem single_yes {rb gl cl : Nat} {ts : List Tok} {s : Q} {w : World} (h : RR rb gl cl ts s w) (ht : TokW (tokAt ts s.i)) (ha : alone (tokAt ts s.i) = true) (L : List Pt) :
    Calls Tryz.prog 286 #[.pointer (some ⟨rb, 0, none⟩)] w (LeftC rb gl cl ts s w ⟨true, s.i + 1, L ++ [⟨tokAt ts s.i, []⟩], L.length⟩) := by
  rw [alone_iff ht] at ha
  have hk0 : kindOf (tokAt ts s.i) ≠ 0 := fun e => by rw [e] at ha; exact absurd ha (by decide)
  have hmore := h.more hk0
  have HK := kind_any h
  have HS := standsAlone_any (kindOf (tokAt ts s.i)) w.drew (kind_le _)
  rw [ha] at HS
  have HT := take_any h.drew hmore
  unfold wordV at HT
  have hF : PF rb w w.drew := (PF.refl rb w).drew
  have HF : Hid _ := hF
  clear hF h ht ha hk0
  go_enter Tryz.func286, Tryz.ntmps286
  go_wp2_with fail
  refine HK.mono ?_
  rintro e w' ⟨rfl, rfl⟩
  go_wp2_with fail
  refine HS.mono ?_
  rintro e w' ⟨rfl, rfl⟩
  go_wp2_with fail
  refine HT.mono ?_
  rintro e w3 ⟨rfl, h3, F3⟩
  have HF3 : Hid _ := HF.out.trans F3
  have H3 : Hid _ := h3
  clear HK HS HT HF F3 h3
  go_wp2_with fail
  go_ret
  refine ⟨w3.heap.size, rfl, HF3.out.alloc _, .inl ⟨rfl, H3.out.alloc _, ?_⟩⟩
  exact leaf_at L _ _ _ (Nat.le_of_lt H3.out.rlt) (heap_alloc_new w3 _)

set_option maxHeartbeats 2000000 in
theorem single_fail {rb gl cl : Nat} {ts : List Tok} {s : Q} {w : World} (h : RR rb gl cl ts s w) (ha : standsK (kindOf (tokAt ts s.i)) = false) :
    Calls Tryz.prog 286 #[.pointer (some ⟨rb, 0, none⟩)] w fun e w' => ∃ b, e = .returned (.pointer (some ⟨b, 0, none⟩)) ∧ PF rb w w' ∧ RR rb gl cl ts (failQ ts s) w' := by
  have HK := kind_any h
  have HS := standsAlone_any (kindOf (tokAt ts s.i)) w.drew (kind_le _)
  rw [ha] at HS
  have HT := fail_any h.drew
  have hF : PF rb w w.drew := (PF.refl rb w).drew
  have HF : Hid _ := hF
  clear hF h ha
  go_enter Tryz.func286, Tryz.ntmps286
  go_wp2_with fail
  refine HK.mono ?_
  rintro e w' ⟨rfl, rfl⟩
  go_wp2_with fail
  refine HS.mono ?_
  rintro e w' ⟨rfl, rfl⟩
  go_wp2_with fail
  refine HT.mono ?_
  rintro e w3 ⟨rfl, h3, F3⟩
  have HF3 : Hid _ := HF.out.trans F3
  have H3 : Hid _ := h3
  clear HK HS HT HF F3 h3
  go_wp2_with fail
  go_ret
  exact ⟨w3.heap.size, rfl, HF3.out.alloc _, H3.out.alloc _⟩
theorem single_no {rb gl cl : Nat} {ts : List Tok} {s : Q} {w : World} (h : RR rb gl cl ts s w) (ht : TokW (tokAt ts s.i)) (ha : alone (tokAt ts s.i) = false) :
    Calls Tryz.prog 286 #[.pointer (some ⟨rb, 0, none⟩)] w (LeftC rb gl cl ts s w ⟨false, s.i, [], 0⟩) := by
  rw [alone_iff ht] at ha
  refine (single_fail h ha).mono ?_
  rintro e w' ⟨b, h1, h2, h3⟩
  exact ⟨b, h1, h2, .inr ⟨rfl, h3⟩⟩
theorem failQ_end {ts : List Tok} {s : Q} (hb : s.bad = true) (hi : s.i = ts.length - 1) : failQ ts s = s := by
  unfold failQ; rw [hb, if_pos rfl, ← hi]; cases s; simp at hb; rw [hb]
theorem single_end {rb gl cl : Nat} {ts : List Tok} {s : Q} {w : World} (h : RR rb gl cl ts s w) (hb : s.bad = true) (hi : s.i = ts.length - 1) :
    Calls Tryz.prog 286 #[.pointer (some ⟨rb, 0, none⟩)] w (LeftE rb gl cl ts s w) := by
  refine (single_fail h (by rw [hi, h.fin]; decide)).mono ?_
  rintro e w' ⟨b, h1, h2, h3⟩
  exact ⟨b, h1, h2, by rw [failQ_end hb hi] at h3; exact h3⟩
end Go.Proofs.YtfkdailfcmnjlaaGreatDoor

namespace Go.Proofs.YtfkdailfcmnjlaaGreatDoor
open Go Go.RowKit
set_option maxRecDepth 100000
attribute [local go_sem ↓] Go.wp_at_zero Go.wp_at_succ

/-- A method value of the reader's. -/
def mv (n rb : Nat) : Value := .func (.func n) #[.pointer (some ⟨rb, 0, none⟩)] #[]
/-- A function that can be called. -/
def Ent (n : Nat) : Prop := ∀ (args : Array Value) (w : World), (callFunc n args).run Tryz.prog w = .ok (.enter n args) w

set_option maxHeartbeats 2000000 in
theorem fork_yes {rb gl cl : Nat} {ts : List Tok} {s : Q} {w : World} (h : RR rb gl cl ts s w) (k n m : Nat) (hk : kindOf (tokAt ts s.i) = k) (hn : Ent n) (R : Nat → World → Prop)
    (HC : Calls Tryz.prog n #[.pointer (some ⟨rb, 0, none⟩)] w.drew fun e w' => ∃ b, e = .returned (.pointer (some ⟨b, 0, none⟩)) ∧ R b w') :
    Calls Tryz.prog 213 #[.pointer (some ⟨rb, 0, none⟩), .int .i64 k, mv n rb, mv m rb] w fun e w' => ∃ b, e = .returned (.pointer (some ⟨b, 0, none⟩)) ∧ R b w' := by
  have HK := kind_any h
  rw [hk] at HK
  unfold mv
  unfold Ent at hn
  clear h hk
  go_enter Tryz.func213, Tryz.ntmps213
  go_wp2_with fail
  refine HK.mono ?_
  rintro e w' ⟨rfl, rfl⟩
  go_wp2_with fail
  refine HC.mono ?_
  rintro e w' ⟨b, rfl, hR⟩
  go_wp2_with fail
  go_ret
  exact ⟨b, rfl, hR⟩
set_option maxHeartbeats 2000000 in
theorem fork_no {rb gl cl : Nat} {ts : List Tok} {s : Q} {w : World} (h : RR rb gl cl ts s w) (k n m : Nat) (hk : kindOf (tokAt ts s.i) ≠ k) (hm : Ent m) (R : Nat → World → Prop)
    (HC : Calls Tryz.prog m #[.pointer (some ⟨rb, 0, none⟩)] w.drew fun e w' => ∃ b, e = .returned (.pointer (some ⟨b, 0, none⟩)) ∧ R b w') :
    Calls Tryz.prog 213 #[.pointer (some ⟨rb, 0, none⟩), .int .i64 k, mv n rb, mv m rb] w fun e w' => ∃ b, e = .returned (.pointer (some ⟨b, 0, none⟩)) ∧ R b w' := by
  have HK := kind_any h
  generalize kindOf (tokAt ts s.i) = kd at HK hk
  have hk' : ¬ ((kd : Int) = (k : Int)) := by omega
  have hk2 : ((kd : Int) == (k : Int)) = false := by simpa using hk'
  unfold mv
  unfold Ent at hm
  clear h hk
  go_enter Tryz.func213, Tryz.ntmps213
  go_wp2_with fail
  refine HK.mono ?_
  rintro e w' ⟨rfl, rfl⟩
  go_wp2_with fail
  refine HC.mono ?_
  rintro e w' ⟨b, rfl, hR⟩
  go_wp2_with fail
  go_ret
  exact ⟨b, rfl, hR⟩
end Go.Proofs.YtfkdailfcmnjlaaGreatDoor

namespace Go.Proofs.YtfkdailfcmnjlaaGreatDoor
open Go Go.RowKit
set_option maxRecDepth 100000
attribute [local go_sem ↓] Go.wp_at_zero Go.wp_at_succ

/-- The memory with one part more over two. -/
def joinW (w : World) (t : Tok) (b1 b2 : Nat) : World := (w.alloc (.cells #[.pointer (some ⟨b1, 0, none⟩), .pointer (some ⟨b2, 0, none⟩)] 161 (0, 0))).alloc (cdObj t (.slice (some ⟨w.heap.size, 0, none⟩) 2 2) 0)
set_option maxHeartbeats 2000000 in
theorem join_any {rb gl cl : Nat} {ts : List Tok} {s : Q} {w : World} (h : RR rb gl cl ts s w) (hi : s.i + 1 < ts.length) (n bl : Nat) (hn : Ent n) (R : Nat → World → Prop)
    (HC : ∀ w1, RR rb gl cl ts { s with i := s.i + 1 } w1 → PF rb w w1 → Calls Tryz.prog n #[.pointer (some ⟨rb, 0, none⟩)] w1 fun e w' => ∃ b, e = .returned (.pointer (some ⟨b, 0, none⟩)) ∧ PF rb w1 w' ∧ R b w') :
    Calls Tryz.prog 266 #[.pointer (some ⟨rb, 0, none⟩), .pointer (some ⟨bl, 0, none⟩), mv n rb] w fun e w' => ∃ b w3, e = .returned (.pointer (some ⟨w3.heap.size + 1, 0, none⟩)) ∧ R b w3 ∧ PF rb w w3 ∧ w' = joinW w3 (tokAt ts s.i) bl b := by
  have HJ : Hid (∀ w3 b, joinW w3 (tokAt ts s.i) bl b = (w3.alloc (.cells #[.pointer (some ⟨bl, 0, none⟩), .pointer (some ⟨b, 0, none⟩)] 161 (0, 0))).alloc (.cells #[.int .i64 (kindOf (tokAt ts s.i)), .int .i64 (tokAt ts s.i).pl, .int .i64 (nmOf (tokAt ts s.i)), S (ownOf (tokAt ts s.i)), .slice (some ⟨w3.heap.size, 0, none⟩) 2 2, .int .i64 0] 229 (0, 0))) := fun _ _ => rfl
  have HT := take_any h hi
  unfold wordV at HT
  unfold mv
  unfold Ent at hn
  go_enter Tryz.func266, Tryz.ntmps266
  go_wp2_with fail
  refine HT.mono ?_
  rintro e w1 ⟨rfl, h1, F1⟩
  clear HT
  generalize kindOf (tokAt ts s.i) = tk at *
  generalize (tokAt ts s.i).pl = tp at *
  generalize nmOf (tokAt ts s.i) = tm at *
  generalize ownOf (tokAt ts s.i) = tt at *
  have hlt1 := h1.rlt
  have h2 := (h1.alloc (wvObj tk tp tm tt)).drew
  have F2 := ((F1.alloc (wvObj tk tp tm tt)).drew)
  have hx2 : (w1.alloc (wvObj tk tp tm tt)).drew.heap[w1.heap.size]? = some (wvObj tk tp tm tt) := heap_alloc_new w1 _
  have HCD := HC _ h2 F2
  have e1 : w1.heap.size ≠ rb := by omega
  have hl2 : w1.heap.size < (w1.alloc (wvObj tk tp tm tt)).drew.heap.size := lt_of_get hx2
  have keepF : ∀ w', PF rb (w1.alloc (wvObj tk tp tm tt)).drew w' → (w'.cell? ⟨w1.heap.size, 0, none⟩ = some (.int .i64 tk) ∧ w'.cell? ⟨w1.heap.size, 1, none⟩ = some (.int .i64 tp) ∧ w'.cell? ⟨w1.heap.size, 2, none⟩ = some (.int .i64 tm) ∧ w'.cell? ⟨w1.heap.size, 3, none⟩ = some (S tt)) := fun w' hf =>
    (wv_cells (by rw [hf.block _ hl2 e1]; exact hx2)).1
  have KF : Hid _ := keepF
  have H2 : Hid _ := h2
  have HF2 : Hid _ := F2
  have hS := keepF _ (PF.refl _ _)
  clear HC h1 F1 h2 F2 hx2 keepF h
  unfold wvObj at HCD KF H2 HF2 hS hl2
  go_wp2_with fail
  obtain ⟨x0, x1, x2, x3⟩ := hS
  show Code.wp _ _ _ _ (w1.alloc (.cells #[.int .i64 tk, .int .i64 tp, .int .i64 tm, S tt] 160 (0, 0)))
  generalize hg : w1.alloc (.cells #[.int .i64 tk, .int .i64 tp, .int .i64 tm, S tt] 160 (0, 0)) = w2 at *
  generalize w1.heap.size = bx at *
  clear hg hlt1
  go_region_held3 (fun w' => w'.cell? ⟨bx, 0, none⟩ = some (.int .i64 tk) ∧ w'.cell? ⟨bx, 1, none⟩ = some (.int .i64 tp) ∧ w'.cell? ⟨bx, 2, none⟩ = some (.int .i64 tm) ∧ w'.cell? ⟨bx, 3, none⟩ = some (S tt)) (first | exact KF.out _ hF3 | go_keep) ((refine HCD.mono ?_; rintro e w3 ⟨b, rfl, hF3, hR⟩))
  rename_i hHeld
  clear hHeld
  go_wp2_with fail
  go_ret
  exact ⟨b, w3, rfl, hR, HF2.out.trans hF3, (HJ.out w3 b).symm⟩
end Go.Proofs.YtfkdailfcmnjlaaGreatDoor

namespace Go.Proofs.YtfkdailfcmnjlaaGreatDoor
open Go Go.RowKit
set_option maxRecDepth 100000

theorem CondAt.lt {L : List Pt} {lt : Nat} {w : World} {i b : Nat} (h : CondAt L lt w i b) : i < L.length := h.ind (fun i _ => i < L.length) fun _ _ _ _ hi _ _ _ _ _ _ => hi
theorem CondAt.grow {L : List Pt} {lt : Nat} {w w' : World} {i b : Nat} (h : CondAt L lt w i b) (hb : Below w.heap.size w w') : CondAt L lt w' i b :=
  h.keep fun k _ _ hk _ => hb.block k (lt_of_get hk)
theorem getD_lastP (L : List Pt) (p : Pt) : (L ++ [p]).getD L.length noPt = p := by simp [List.getD_eq_getElem?_getD]

/-- The memory with one part more over some. -/
def overW (w : World) (t : Tok) (bs : List Nat) : World := (w.alloc (.cells (bs.map fun b => Value.pointer (some ⟨b, 0, none⟩)).toArray 161 (0, 0))).alloc (cdObj t (.slice (some ⟨w.heap.size, 0, none⟩) bs.length bs.length) 0)
theorem over_below (w : World) (t : Tok) (bs : List Nat) : Below w.heap.size w (overW w t bs) :=
  ((Below.refl _ _).alloc (Nat.le_refl _) _).alloc (by simp) _
theorem joinW_over (w : World) (t : Tok) (b1 b2 : Nat) : joinW w t b1 b2 = overW w t [b1, b2] := rfl
theorem over_at {L : List Pt} {w : World} {t : Tok} {xs bs : List Nat} {lo : Nat} (hlo : lo < w.heap.size) (hl : xs.length = bs.length) (h0 : 0 < bs.length) (h : ∀ j, j < bs.length → CondAt L lo w (xs.getD j 0) (bs.getD j 0)) :
    CondAt (L ++ [⟨t, xs⟩]) lo (overW w t bs) L.length (w.heap.size + 1) := by
  have e := getD_lastP L ⟨t, xs⟩
  have hg : (overW w t bs).heap[w.heap.size]? = some (.cells (bs.map fun b => Value.pointer (some ⟨b, 0, none⟩)).toArray 161 (0, 0)) := by
    unfold overW
    rw [Below.heap_alloc _ _ _ (by simp)]; exact heap_alloc_new w _
  have hc : (overW w t bs).heap[w.heap.size + 1]? = some (cdObj t (.slice (some ⟨w.heap.size, 0, none⟩) bs.length bs.length) 0) := by
    have := heap_alloc_new (w.alloc (.cells (bs.map fun b => Value.pointer (some ⟨b, 0, none⟩)).toArray 161 (0, 0))) (cdObj t (.slice (some ⟨w.heap.size, 0, none⟩) bs.length bs.length) 0)
    simp only [World.size_alloc] at this
    exact this
  have hm : (bs.map fun b => Value.pointer (some ⟨b, 0, none⟩)) = (List.range bs.length).map fun j => Value.pointer (some ⟨bs.getD j 0, 0, none⟩) := by
    apply List.ext_getElem
    · simp
    · intro j h1 h2
      simp at h1
      simp [List.getD_eq_getElem?_getD, List.getElem?_eq_getElem h1]
  refine .mk L.length (w.heap.size + 1) (.slice (some ⟨w.heap.size, 0, none⟩) bs.length bs.length) (fun j => bs.getD j 0) (by simp) (by omega) (by rw [e]; exact hc) ?_ ?_ ?_
  · rw [e]
    simp only [hl]
    refine .inr ⟨h0, w.heap.size, rfl, ?_⟩
    rw [hg, hm]
  · rw [e]; intro j hj
    simp only [hl] at hj
    exact (h j hj).lt
  · rw [e]; intro j hj
    simp only [hl] at hj
    exact ((h j hj).grow (over_below w t bs)).put _
end Go.Proofs.YtfkdailfcmnjlaaGreatDoor

namespace Go.Proofs.YtfkdailfcmnjlaaGreatDoor
open Go Go.RowKit
set_option maxRecDepth 100000
attribute [local go_sem ↓] Go.wp_at_zero Go.wp_at_succ

theorem P_more {g tag : Nat} {ts : List Tok} {i x : Nat} {L : List Pt} {r : Rd} (h : P g tag ts i L x = some r) (ok : r.ok = true) (ht : tag ≤ 6) : ∃ new, r.L = L ++ new :=
  (P_kept g tag ts i L x L.length r h ok (Nat.le_refl _) (fun k h1 h2 => by omega) (by omega) (.inl ht)).more
/-- A form reads as the plain reader does. -/
def FormOK (f fn lv rb gl cl : Nat) (ts : List Tok) : Prop := ∀ g, g ≤ f → ∀ (s1 : Q) (w1 : World) (L : List Pt) (r1 : Rd), RR rb gl cl ts s1 w1 → s1.bad = false → P g lv ts s1.i L 0 = some r1 → Calls Tryz.prog fn #[.pointer (some ⟨rb, 0, none⟩)] w1 (LeftC rb gl cl ts s1 w1 r1)
/-- The kinds of joining words, as a variadic call lays them. -/
def ksObj (ks : List Nat) : Obj := .cells (ks.map fun (k : Nat) => Value.int .i64 k).toArray 158 (0, 0)
theorem ks_cells {w : World} {ks : List Nat} {jb : Nat} (h : w.heap[jb]? = some (ksObj ks)) : ∀ j, j < ks.length → w.cell? ⟨jb, j, none⟩ = some (.int .i64 (ks.getD j 0)) := fun j hj => by
  rw [cell_of_row w jb j _ _ _ h]
  simp [List.getD_eq_getElem?_getD, List.getElem?_eq_getElem hj]

/-- Where the loop stands. -/
def AtC (f rb gl cl : Nat) (ts : List Tok) (s : Q) (w : World) (n : Nat) (r : Rd) (v : Value) (wr : World) : Prop :=
  ∃ s' b, v = .pointer (some ⟨b, 0, none⟩) ∧ RR rb gl cl ts s' wr ∧ PF rb w wr ∧ ((s' = { s with i := s'.i } ∧ ∃ g L x, g ≤ f ∧ P g (10 + n) ts s'.i L x = some r ∧ CondAt L rb wr x b) ∨ (r.ok = false ∧ s' = failQ ts { s with i := r.i }))
def rdI2 (rb : Nat) (w : World) : Nat := (intOf ((w.cell? ⟨rb, 1, none⟩).getD (.int .i64 0))).toNat

theorem rdI2_eq {rb gl cl : Nat} {ts : List Tok} {s : Q} {w : World} (h : RR rb gl cl ts s w) : rdI2 rb w = s.i := by
  unfold rdI2; rw [h.cells.1.2.1]; simp [intOf]
theorem tokAt_mem {ts : List Tok} {i : Nat} (h : i < ts.length) : tokAt ts i ∈ ts := by
  unfold tokAt; rw [List.getD_eq_getElem?_getD, List.getElem?_eq_getElem h]; exact List.getElem_mem h
theorem more_at {L L' : List Pt} {lo : Nat} {w : World} {x b : Nat} (h : CondAt L lo w x b) (hm : ∃ new, L' = L ++ new) : CondAt L' lo w x b := by
  obtain ⟨new, rfl⟩ := hm
  exact h.more (by simp) (fun k hk => by simp [List.getD_eq_getElem?_getD, List.getElem?_append_left hk])
/-- What stands behind a joining word and a form. -/
def AfterJ (rb gl cl : Nat) (ts : List Tok) (s' : Q) (bb : Rd) (b2 : Nat) (w3 : World) : Prop := (bb.ok = true ∧ RR rb gl cl ts { s' with i := bb.i } w3 ∧ CondAt bb.L rb w3 bb.top b2) ∨ (bb.ok = false ∧ RR rb gl cl ts (failQ ts { s' with i := bb.i }) w3)

set_option maxHeartbeats 2000000 in
theorem chain_any {f rb gl cl : Nat} {ts : List Tok} {s : Q} {w : World} (h : RR rb gl cl ts s w) (hW : ∀ t ∈ ts, TokW t) (hgood : s.bad = false) (n fn : Nat) (hch : n = 0 ∨ n = 1 ∨ n = 4) (hf : FormOK f fn (n + 1) rb gl cl ts) (hfn : Ent fn) (jb : Nat)
    (hj : w.heap[jb]? = some (ksObj (joinK n))) (L : List Pt) (r : Rd) (hP : P (f + 1) n ts s.i L 0 = some r) :
    Calls Tryz.prog 246 #[.pointer (some ⟨rb, 0, none⟩), mv fn rb, .slice (some ⟨jb, 0, none⟩) (joinK n).length (joinK n).length] w (LeftC rb gl cl ts s w r) := by
  obtain ⟨a, hPa, hra⟩ := chain_split (by unfold isChain; omega) hP
  have HF1 := hf f (Nat.le_refl _) s w L a h hgood hPa
  have hj0 : jb ≠ rb := fun e => by rw [e, h.rd] at hj; simp [rdObj, ksObj] at hj
  have hjl := lt_of_get hj
  have H1 : Hid _ := hra
  have hfn' := hfn
  unfold mv
  unfold Ent at hfn'
  clear hP hPa hra
  go_enter Tryz.func246, Tryz.ntmps246
  go_wp2_with fail
  refine HF1.mono ?_
  rintro e w1 ⟨b1, rfl, F1, hL⟩
  have hstart : AtC f rb gl cl ts s w n r (.pointer (some ⟨b1, 0, none⟩)) w1 := by
    rcases H1.out with ⟨ok, hp⟩ | ⟨ok, rfl⟩
    · rcases hL with ⟨_, hr, hc⟩ | ⟨hh, _⟩
      · exact ⟨_, b1, rfl, hr, F1, .inl ⟨rfl, f, a.L, a.top, Nat.le_refl _, hp, hc⟩⟩
      · rw [ok] at hh; simp at hh
    · rcases hL with ⟨hh, _⟩ | ⟨_, hr⟩
      · rw [ok] at hh; simp at hh
      · exact ⟨_, b1, rfl, hr, F1, .inr ⟨ok, rfl⟩⟩
  have HST : Hid _ := hstart
  clear hL HF1 F1 H1 hstart
  go_wp2_with fail
  have HJ : Hid _ := hj
  have HG : Hid _ := hgood
  clear hj h hgood
  go_loopw [7] (fun v wr => AtC f rb gl cl ts s w n r v wr) (fun _ wr => ts.length - rdI2 rb wr)
  case atStart => exact HST.out
  case round =>
    obtain ⟨s', b, rfl, hr, Fr', hst⟩ := hrel
    have ht := hW _ (tokAt_mem hr.lt)
    have hjr : wr.drew.heap[jb]? = some (ksObj (joinK n)) := by show wr.heap[jb]? = _; rw [Fr'.block _ hjl hj0]; exact HJ.out
    have hn4 : n ≤ 4 := by omega
    have hkl : (joinK n).length ≤ 100 := by rcases hch with rfl | rfl | rfl <;> decide
    have HK := kind_any hr
    have HCn := contains_any (joinK n) (kindOf (tokAt ts s'.i)) jb wr.drew hkl (ks_cells hjr)
    have hji := joins_iff hn4 ht
    cases hct : (joinK n).contains (kindOf (tokAt ts s'.i)) with
    | false =>
      rw [hct] at HCn hji
      have HL : Hid (LeftC rb gl cl ts s w r (.returned (.pointer (some ⟨b, 0, none⟩))) wr.drew) := by
        refine ⟨b, rfl, Fr'.drew, ?_⟩
        rcases hst with ⟨hs, g, L', x, hg, hp, hc⟩ | ⟨ok, hs⟩
        · cases g with
          | zero => rw [P] at hp; simp at hp
          | succ g =>
            have := loop_no (by unfold isChain; omega) hp hji
            subst this
            exact .inl ⟨rfl, by rw [← hs]; exact hr.drew, hc.keep fun k _ _ _ _ => rfl⟩
        · exact .inr ⟨ok, by rw [← hs]; exact hr.drew⟩
      clear hst hct hji ht hjr hr Fr'
      go_wp2_with fail
      refine HK.mono ?_
      rintro e w' ⟨rfl, rfl⟩
      go_wp2_with fail
      refine HCn.mono ?_
      rintro e w' ⟨rfl, rfl⟩
      go_wp2_with fail
      go_ret
      exact HL.out
    | true =>
      rw [hct] at HCn hji
      have hk0 : kindOf (tokAt ts s'.i) ≠ 0 := fun e => by
        rw [e, List.contains_iff_mem] at hct
        have := joinK_small n hn4 0 hct; omega
      have hmore := hr.more hk0
      rcases hst with ⟨hs, g, L', x, hg, hp, hc⟩ | ⟨ok, hs⟩
      · cases g with
        | zero => rw [P] at hp; simp at hp
        | succ g =>
          obtain ⟨bb, hPb, hcase⟩ := loop_yes (by unfold isChain; omega) hp hji
          have hsb : s'.bad = false := by rw [hs]; exact HG.out
          have HJn := join_any hr.drew hmore fn b hfn (AfterJ rb gl cl ts s' bb) (fun w1 h1 F1 => by
            refine (hf g (by omega) { s' with i := s'.i + 1 } w1 L' bb h1 hsb hPb).mono ?_
            rintro e w2 ⟨b2, h2, h3, h4⟩
            exact ⟨b2, h2, h3, h4⟩)
          have HH : Hid _ := hcase
          have HP : Hid _ := hPb
          have HS : Hid _ := hs
          have HCo : Hid _ := hc
          have HR : Hid _ := hr
          have HF : Hid _ := Fr'
          unfold mv at HJn
          clear hct hji ht hjr hr Fr' hcase hPb hs hc hp hsb hk0
          go_wp2_with fail
          refine HK.mono ?_
          rintro e w' ⟨rfl, rfl⟩
          go_wp2_with fail
          refine HCn.mono ?_
          rintro e w' ⟨rfl, rfl⟩
          go_wp2_with fail
          refine HJn.mono ?_
          rintro e w' ⟨b2, w3, rfl, hA, F3, rfl⟩
          clear HK HCn HJn
          have HA : Hid _ := hA
          have HF3 : Hid _ := F3
          clear hA F3
          go_wp2_with fail
          have hB := over_below w3 (tokAt ts s'.i) [b, b2]
          rw [← joinW_over] at hB
          have hF : PF rb w (joinW w3 (tokAt ts s'.i) b b2) := (HF.out.drew.trans HF3.out).trans (PF.of_below hB)
          rcases HA.out with ⟨ok, h3, hc3⟩ | ⟨ok, h3⟩
          · have h4 := h3.below hB
            have hkp := P_kept g (n + 1) ts (s'.i + 1) L' 0 L'.length bb HP.out ok (Nat.le_refl _) (fun k h1 h2 => by omega) (by omega) (.inl (by omega))
            have hfw := hkp.fwd
            refine ⟨?_, by rw [rdI2_eq h4, rdI2_eq HR.out]; simp only []; have := h4.lt; simp only [] at this; omega⟩
            rcases HH.out with ⟨no, _⟩ | ⟨_, ⟨h3', _⟩ | ⟨_, hp⟩⟩
            · rw [ok] at no; simp at no
            · omega
            · refine ⟨_, _, rfl, h4, hF, .inl ⟨by rw [HS.out], g, _, _, by omega, hp, ?_⟩⟩
              rw [joinW_over]
              refine over_at h3.rlt rfl (by simp) fun j hj => ?_
              have hcx := more_at ((HCo.out.pf HR.out (PF.refl rb wr).drew).pf HR.out.drew HF3.out) hkp.more
              match j, hj with
              | 0, _ => exact hcx
              | 1, _ => exact hc3
          · have h4 := h3.below hB
            refine ⟨?_, by rw [rdI2_eq h4, rdI2_eq HR.out]; simp only [failQ]; omega⟩
            rcases HH.out with ⟨_, rfl⟩ | ⟨yes, _⟩
            · exact ⟨_, _, rfl, h4, hF, .inr ⟨ok, by rw [HS.out]⟩⟩
            · rw [ok] at yes; simp at yes
      · exfalso
        apply hk0
        have : s'.i = ts.length - 1 := by rw [hs]; rfl
        rw [this]; exact hr.fin
end Go.Proofs.YtfkdailfcmnjlaaGreatDoor

namespace Go.Proofs.YtfkdailfcmnjlaaGreatDoor
open Go Go.RowKit
set_option maxRecDepth 100000
attribute [local go_sem ↓] Go.wp_at_zero Go.wp_at_succ

/-- A form that is asked behind a failure changes nothing more. -/
def FormE (fn rb gl cl : Nat) (ts : List Tok) : Prop := ∀ (s1 : Q) (w1 : World), RR rb gl cl ts s1 w1 → s1.bad = true → s1.i = ts.length - 1 → Calls Tryz.prog fn #[.pointer (some ⟨rb, 0, none⟩)] w1 (LeftE rb gl cl ts s1 w1)

set_option maxHeartbeats 2000000 in
theorem chain_end {rb gl cl : Nat} {ts : List Tok} {s : Q} {w : World} (h : RR rb gl cl ts s w) (hb : s.bad = true) (hi : s.i = ts.length - 1) (fn : Nat) (hf : FormE fn rb gl cl ts) (hfn : Ent fn) (ks : List Nat) (hkl : ks.length ≤ 100) (hk0 : 0 ∉ ks) (jb : Nat)
    (hj : w.heap[jb]? = some (ksObj ks)) :
    Calls Tryz.prog 246 #[.pointer (some ⟨rb, 0, none⟩), mv fn rb, .slice (some ⟨jb, 0, none⟩) ks.length ks.length] w (LeftE rb gl cl ts s w) := by
  have HF1 := hf s w h hb hi
  have hj0 : jb ≠ rb := fun e => by rw [e, h.rd] at hj; simp [rdObj, ksObj] at hj
  have hjl := lt_of_get hj
  have hfn' := hfn
  unfold mv
  unfold Ent at hfn'
  have HJ : Hid _ := hj
  have HI : Hid _ := hi
  have HK0 : Hid (ks.contains 0 = false) := by
    show _ = _
    rw [Bool.eq_false_iff]; intro e; rw [List.contains_iff_mem] at e; exact hk0 e
  clear h hj hi hb hk0
  go_enter Tryz.func246, Tryz.ntmps246
  go_wp2_with fail
  refine HF1.mono ?_
  rintro e w1 ⟨b1, rfl, F1, hr1⟩
  clear HF1
  have HF1 : Hid _ := F1
  have HR1 : Hid _ := hr1
  have HK := kind_any hr1
  have HCn := contains_any ks (kindOf (tokAt ts s.i)) jb w1.drew hkl (ks_cells (by show w1.heap[jb]? = _; rw [F1.block _ hjl hj0]; exact HJ.out))
  have hz : kindOf (tokAt ts s.i) = 0 := by rw [HI.out]; exact hr1.fin
  rw [hz] at HK HCn
  rw [HK0.out] at HCn
  clear F1 hr1 hz
  go_wp2_with fail
  go_loopw [7] (fun v wr => v = .pointer (some ⟨b1, 0, none⟩) ∧ wr = w1) (fun _ _ => 0)
  case atStart => exact ⟨rfl, rfl⟩
  case round =>
    obtain ⟨rfl, rfl⟩ := hrel
    go_wp2_with fail
    refine HK.mono ?_
    rintro e w' ⟨rfl, rfl⟩
    go_wp2_with fail
    refine HCn.mono ?_
    rintro e w' ⟨rfl, rfl⟩
    go_wp2_with fail
    go_ret
    exact ⟨b1, rfl, HF1.out.drew, HR1.out.drew⟩
set_option maxHeartbeats 2000000 in
theorem pair_end {rb gl cl : Nat} {ts : List Tok} {s : Q} {w : World} (h : RR rb gl cl ts s w) (hb : s.bad = true) (hi : s.i = ts.length - 1) (fn : Nat) (hf : FormE fn rb gl cl ts) (hfn : Ent fn) (ks : List Nat) (hkl : ks.length ≤ 100) (hk0 : 0 ∉ ks) (jb : Nat)
    (hj : w.heap[jb]? = some (ksObj ks)) :
    Calls Tryz.prog 282 #[.pointer (some ⟨rb, 0, none⟩), mv fn rb, .slice (some ⟨jb, 0, none⟩) ks.length ks.length] w (LeftE rb gl cl ts s w) := by
  have HF1 := hf s w h hb hi
  have hj0 : jb ≠ rb := fun e => by rw [e, h.rd] at hj; simp [rdObj, ksObj] at hj
  have hjl := lt_of_get hj
  have hfn' := hfn
  unfold mv
  unfold Ent at hfn'
  have HJ : Hid _ := hj
  have HI : Hid _ := hi
  have HK0 : Hid (ks.contains 0 = false) := by
    show _ = _
    rw [Bool.eq_false_iff]; intro e; rw [List.contains_iff_mem] at e; exact hk0 e
  clear h hj hi hb hk0
  go_enter Tryz.func282, Tryz.ntmps282
  go_wp2_with fail
  refine HF1.mono ?_
  rintro e w1 ⟨b1, rfl, F1, hr1⟩
  clear HF1
  have HF1 : Hid _ := F1
  have HR1 : Hid _ := hr1
  have HK := kind_any hr1
  have HCn := contains_any ks (kindOf (tokAt ts s.i)) jb w1.drew hkl (ks_cells (by show w1.heap[jb]? = _; rw [F1.block _ hjl hj0]; exact HJ.out))
  have hz : kindOf (tokAt ts s.i) = 0 := by rw [HI.out]; exact hr1.fin
  rw [hz] at HK HCn
  rw [HK0.out] at HCn
  clear F1 hr1 hz
  go_wp2_with fail
  refine HK.mono ?_
  rintro e w' ⟨rfl, rfl⟩
  go_wp2_with fail
  refine HCn.mono ?_
  rintro e w' ⟨rfl, rfl⟩
  go_wp2_with fail
  go_ret
  exact ⟨b1, rfl, HF1.out.drew, HR1.out.drew⟩

set_option maxHeartbeats 4000000 in
theorem pair_any {f rb gl cl : Nat} {ts : List Tok} {s : Q} {w : World} (h : RR rb gl cl ts s w) (hW : ∀ t ∈ ts, TokW t) (hgood : s.bad = false) (fn : Nat) (hf : FormOK f fn 4 rb gl cl ts) (hfn : Ent fn) (jb : Nat)
    (hj : w.heap[jb]? = some (ksObj (joinK 3))) (L : List Pt) (r : Rd) (hP : P (f + 1) 3 ts s.i L 0 = some r) :
    Calls Tryz.prog 282 #[.pointer (some ⟨rb, 0, none⟩), mv fn rb, .slice (some ⟨jb, 0, none⟩) (joinK 3).length (joinK 3).length] w (LeftC rb gl cl ts s w r) := by
  obtain ⟨a, hPa, hra⟩ := chain_split (by unfold isChain; omega) hP
  have HF1 := hf f (Nat.le_refl _) s w L a h hgood hPa
  have hj0 : jb ≠ rb := fun e => by rw [e, h.rd] at hj; simp [rdObj, ksObj] at hj
  have hjl := lt_of_get hj
  have H1 : Hid _ := hra
  have hfn' := hfn
  unfold mv
  unfold Ent at hfn'
  have HJ : Hid _ := hj
  have HG : Hid _ := hgood
  clear hP hPa hra hj h hgood
  generalize hlen : (joinK 3).length = jl
  have HLN : Hid _ := hlen
  clear hlen
  go_enter Tryz.func282, Tryz.ntmps282
  go_wp2_with fail
  refine HF1.mono ?_
  rintro e w1 ⟨b1, rfl, F1, hL⟩
  clear HF1
  have hst : ∃ s1 : Q, RR rb gl cl ts s1 w1 ∧ ((s1 = { s with i := a.i } ∧ a.ok = true ∧ P f 13 ts a.i a.L a.top = some r ∧ CondAt a.L rb w1 a.top b1) ∨ (r.ok = false ∧ s1 = failQ ts { s with i := r.i })) := by
    rcases H1.out with ⟨ok, hp⟩ | ⟨ok, rfl⟩
    · rcases hL with ⟨_, hr, hc⟩ | ⟨hh, _⟩
      · exact ⟨_, hr, .inl ⟨rfl, ok, hp, hc⟩⟩
      · rw [ok] at hh; simp at hh
    · rcases hL with ⟨hh, _⟩ | ⟨_, hr⟩
      · rw [ok] at hh; simp at hh
      · exact ⟨_, hr, .inr ⟨ok, rfl⟩⟩
  obtain ⟨s', hr, hst⟩ := hst
  have ht := hW _ (tokAt_mem hr.lt)
  have hjr : w1.drew.heap[jb]? = some (ksObj (joinK 3)) := by show w1.heap[jb]? = _; rw [F1.block _ hjl hj0]; exact HJ.out
  have HK := kind_any hr
  have HCn := contains_any (joinK 3) (kindOf (tokAt ts s'.i)) jb w1.drew (by decide) (ks_cells hjr)
  have hji := joins_iff (n := 3) (by omega) ht
  rw [HLN.out] at HCn
  have HF : Hid _ := F1
  clear hL H1 F1
  cases hct : (joinK 3).contains (kindOf (tokAt ts s'.i)) with
  | false =>
    rw [hct] at HCn hji
    have HL : Hid (LeftC rb gl cl ts s w r (.returned (.pointer (some ⟨b1, 0, none⟩))) w1.drew) := by
      refine ⟨b1, rfl, HF.out.drew, ?_⟩
      rcases hst with ⟨hs, _, hp, hc⟩ | ⟨ok, hs⟩
      · subst hs
        cases f with
        | zero => rw [P] at hp; simp at hp
        | succ g =>
          have := loop_no (n := 3) (by unfold isChain; omega) hp hji
          subst this
          exact .inl ⟨rfl, hr.drew, hc.keep fun k _ _ _ _ => rfl⟩
      · exact .inr ⟨ok, by rw [← hs]; exact hr.drew⟩
    clear hst hct hji ht hjr hr HF
    go_wp2_with fail
    refine HK.mono ?_
    rintro e w' ⟨rfl, rfl⟩
    go_wp2_with fail
    refine HCn.mono ?_
    rintro e w' ⟨rfl, rfl⟩
    go_wp2_with fail
    go_ret
    exact HL.out
  | true =>
    rw [hct] at HCn hji
    have hk0 : kindOf (tokAt ts s'.i) ≠ 0 := fun e => by
      rw [e, List.contains_iff_mem] at hct
      have := joinK_small 3 (by omega) 0 hct; omega
    have hmore := hr.more hk0
    rcases hst with ⟨hs, _, hp, hc⟩ | ⟨ok, hs⟩
    · cases f with
      | zero => rw [P] at hp; simp at hp
      | succ g =>
        subst hs
        obtain ⟨bb, hPb, hcase⟩ := loop_yes (n := 3) (by unfold isChain; omega) hp hji
        have HJn := join_any hr.drew hmore fn b1 hfn (AfterJ rb gl cl ts { s with i := a.i } bb) (fun w2 h1 F1 => by
          refine (hf g (by omega) { s with i := a.i + 1 } w2 a.L bb h1 HG.out hPb).mono ?_
          rintro e w2 ⟨b2, h2, h3, h4⟩
          exact ⟨b2, h2, h3, h4⟩)
        have HH : Hid _ := hcase
        have HP : Hid _ := hPb
        have HCo : Hid _ := hc
        have HR : Hid _ := hr
        unfold mv at HJn
        clear hct hji ht hjr hr hcase hPb hc hp hk0
        go_wp2_with fail
        refine HK.mono ?_
        rintro e w' ⟨rfl, rfl⟩
        go_wp2_with fail
        refine HCn.mono ?_
        rintro e w' ⟨rfl, rfl⟩
        go_wp2_with fail
        refine HJn.mono ?_
        rintro e w' ⟨b2, w3, rfl, hA, F3, rfl⟩
        clear HK HCn HJn
        have HA : Hid _ := hA
        have HF3 : Hid _ := F3
        clear hA F3
        go_wp2_with fail
        go_ret
        have hB := over_below w3 (tokAt ts a.i) [b1, b2]
        rw [← joinW_over] at hB
        refine ⟨_, rfl, (HF.out.drew.trans HF3.out).trans (PF.of_below hB), ?_⟩
        rcases HA.out with ⟨ok, h3, hc3⟩ | ⟨ok, h3⟩
        · have h4 := h3.below hB
          rcases HH.out with ⟨no, _⟩ | ⟨_, ⟨_, hput⟩ | ⟨no, _⟩⟩
          · rw [ok] at no; simp at no
          · subst hput
            refine .inl ⟨rfl, h4, ?_⟩
            rw [joinW_over]
            refine over_at h3.rlt rfl (by simp) fun j hj => ?_
            have hcx := more_at ((HCo.out.pf HR.out (PF.refl rb w1).drew).pf HR.out.drew HF3.out) (P_more HP.out ok (by omega))
            match j, hj with
            | 0, _ => exact hcx
            | 1, _ => exact hc3
          · exact absurd rfl no
        · have h4 := h3.below hB
          rcases HH.out with ⟨_, rfl⟩ | ⟨yes, _⟩
          · exact .inr ⟨ok, h4⟩
          · rw [ok] at yes; simp at yes
    · exfalso
      apply hk0
      have : s'.i = ts.length - 1 := by rw [hs]; rfl
      rw [this]; exact hr.fin
end Go.Proofs.YtfkdailfcmnjlaaGreatDoor

namespace Go.Proofs.YtfkdailfcmnjlaaGreatDoor
open Go Go.RowKit
set_option maxRecDepth 100000
attribute [local go_sem ↓] Go.wp_at_zero Go.wp_at_succ

theorem ent_single : Ent 286 := enters_of Tryz.func286 (by kernel_rfl) rfl
theorem ent_bracketed : Ent 285 := enters_of Tryz.func285 (by kernel_rfl) rfl
theorem ent_one : Ent 284 := enters_of Tryz.func284 (by kernel_rfl) rfl
theorem ent_sum : Ent 283 := enters_of Tryz.func283 (by kernel_rfl) rfl
theorem ent_compared : Ent 279 := enters_of Tryz.func279 (by kernel_rfl) rfl
theorem ent_negation : Ent 278 := enters_of Tryz.func278 (by kernel_rfl) rfl
theorem ent_part : Ent 267 := enters_of Tryz.func267 (by kernel_rfl) rfl
theorem ent_both : Ent 247 := enters_of Tryz.func247 (by kernel_rfl) rfl
theorem ent_choice : Ent 215 := enters_of Tryz.func215 (by kernel_rfl) rfl
theorem ent_whether : Ent 214 := enters_of Tryz.func214 (by kernel_rfl) rfl

theorem end_kind {rb gl cl : Nat} {ts : List Tok} {s : Q} {w : World} (h : RR rb gl cl ts s w) (hi : s.i = ts.length - 1) : kindOf (tokAt ts s.i) = 0 := by rw [hi]; exact h.fin

set_option maxHeartbeats 1000000 in
theorem one_end {rb gl cl : Nat} {ts : List Tok} : FormE 284 rb gl cl ts := by
  intro s w h hb hi
  have HF := fork_no h 3 285 286 (by rw [end_kind h hi]; omega) ent_single (fun b w' => PF rb w w' ∧ RR rb gl cl ts s w') ((single_end h.drew hb hi).mono fun e w' ⟨b, h1, h2, h3⟩ => ⟨b, h1, (PF.refl rb w).drew.trans h2, h3⟩)
  unfold mv at HF
  clear h hb hi
  go_enter Tryz.func284, Tryz.ntmps284
  go_wp2_with fail
  refine HF.mono ?_
  rintro e w' ⟨b, rfl, h1, h2⟩
  clear HF
  go_wp2_with fail
  go_ret
  exact ⟨b, rfl, h1, h2⟩

set_option maxHeartbeats 1000000 in
theorem sum_end {rb gl cl : Nat} {ts : List Tok} : FormE 283 rb gl cl ts := by
  intro s w h hb hi
  have hnew : (w.alloc (ksObj [6, 7])).heap[w.heap.size]? = some (ksObj [6, 7]) := heap_alloc_new w _
  have HF := chain_end (h.alloc (ksObj [6, 7])) hb hi 284 one_end ent_one [6, 7] (by decide) (by decide) w.heap.size hnew
  unfold mv at HF
  have HA : Hid (PF rb w (w.alloc (ksObj [6, 7]))) := (PF.refl rb w).alloc _
  clear h hb hi hnew
  go_enter Tryz.func283, Tryz.ntmps283
  go_wp2_with fail
  refine HF.mono ?_
  rintro e w' ⟨b, rfl, h1, h2⟩
  clear HF
  go_wp2_with fail
  go_ret
  exact ⟨b, rfl, HA.out.trans h1, h2⟩
set_option maxHeartbeats 1000000 in
theorem compared_end {rb gl cl : Nat} {ts : List Tok} : FormE 279 rb gl cl ts := by
  intro s w h hb hi
  have hnew : (w.alloc (ksObj [8, 10, 9])).heap[w.heap.size]? = some (ksObj [8, 10, 9]) := heap_alloc_new w _
  have HF := pair_end (h.alloc (ksObj [8, 10, 9])) hb hi 283 sum_end ent_sum [8, 10, 9] (by decide) (by decide) w.heap.size hnew
  unfold mv at HF
  have HA : Hid (PF rb w (w.alloc (ksObj [8, 10, 9]))) := (PF.refl rb w).alloc _
  clear h hb hi hnew
  go_enter Tryz.func279, Tryz.ntmps279
  go_wp2_with fail
  refine HF.mono ?_
  rintro e w' ⟨b, rfl, h1, h2⟩
  clear HF
  go_wp2_with fail
  go_ret
  exact ⟨b, rfl, HA.out.trans h1, h2⟩

set_option maxHeartbeats 1000000 in
theorem part_end {rb gl cl : Nat} {ts : List Tok} : FormE 267 rb gl cl ts := by
  intro s w h hb hi
  have HF := fork_no h 19 278 279 (by rw [end_kind h hi]; omega) ent_compared (fun b w' => PF rb w w' ∧ RR rb gl cl ts s w') ((compared_end s _ h.drew hb hi).mono fun e w' ⟨b, h1, h2, h3⟩ => ⟨b, h1, (PF.refl rb w).drew.trans h2, h3⟩)
  unfold mv at HF
  clear h hb hi
  go_enter Tryz.func267, Tryz.ntmps267
  go_wp2_with fail
  refine HF.mono ?_
  rintro e w' ⟨b, rfl, h1, h2⟩
  clear HF
  go_wp2_with fail
  go_ret
  exact ⟨b, rfl, h1, h2⟩

set_option maxHeartbeats 1000000 in
theorem both_end {rb gl cl : Nat} {ts : List Tok} : FormE 247 rb gl cl ts := by
  intro s w h hb hi
  have hnew : (w.alloc (ksObj [18])).heap[w.heap.size]? = some (ksObj [18]) := heap_alloc_new w _
  have HF := chain_end (h.alloc (ksObj [18])) hb hi 267 part_end ent_part [18] (by decide) (by decide) w.heap.size hnew
  unfold mv at HF
  have HA : Hid (PF rb w (w.alloc (ksObj [18]))) := (PF.refl rb w).alloc _
  clear h hb hi hnew
  go_enter Tryz.func247, Tryz.ntmps247
  go_wp2_with fail
  refine HF.mono ?_
  rintro e w' ⟨b, rfl, h1, h2⟩
  clear HF
  go_wp2_with fail
  go_ret
  exact ⟨b, rfl, HA.out.trans h1, h2⟩

set_option maxHeartbeats 1000000 in
theorem choice_end {rb gl cl : Nat} {ts : List Tok} : FormE 215 rb gl cl ts := by
  intro s w h hb hi
  have hnew : (w.alloc (ksObj [17])).heap[w.heap.size]? = some (ksObj [17]) := heap_alloc_new w _
  have HF := chain_end (h.alloc (ksObj [17])) hb hi 247 both_end ent_both [17] (by decide) (by decide) w.heap.size hnew
  unfold mv at HF
  have HA : Hid (PF rb w (w.alloc (ksObj [17]))) := (PF.refl rb w).alloc _
  clear h hb hi hnew
  go_enter Tryz.func215, Tryz.ntmps215
  go_wp2_with fail
  refine HF.mono ?_
  rintro e w' ⟨b, rfl, h1, h2⟩
  clear HF
  go_wp2_with fail
  go_ret
  exact ⟨b, rfl, HA.out.trans h1, h2⟩

set_option maxHeartbeats 1000000 in
theorem condition_end {rb gl cl : Nat} {ts : List Tok} : FormE 152 rb gl cl ts := by
  intro s w h hb hi
  have HF := fork_no h 14 214 215 (by rw [end_kind h hi]; omega) ent_choice (fun b w' => PF rb w w' ∧ RR rb gl cl ts s w') ((choice_end s _ h.drew hb hi).mono fun e w' ⟨b, h1, h2, h3⟩ => ⟨b, h1, (PF.refl rb w).drew.trans h2, h3⟩)
  unfold mv at HF
  clear h hb hi
  go_enter Tryz.func152, Tryz.ntmps152
  go_wp2_with fail
  refine HF.mono ?_
  rintro e w' ⟨b, rfl, h1, h2⟩
  clear HF
  go_wp2_with fail
  go_ret
  exact ⟨b, rfl, h1, h2⟩
end Go.Proofs.YtfkdailfcmnjlaaGreatDoor

namespace Go.Proofs.YtfkdailfcmnjlaaGreatDoor
open Go Go.RowKit
set_option maxRecDepth 100000
attribute [local go_sem ↓] Go.wp_at_zero Go.wp_at_succ

/-- 'want' with kinds that a variadic call lays. -/
theorem want_new {rb gl cl : Nat} {ts : List Tok} {s : Q} {w : World} (h : RR rb gl cl ts s w) (ks : List Nat) (hl : ks.length ≤ 100) (h0 : 0 ∉ ks) :
    Calls Tryz.prog 151 #[.pointer (some ⟨rb, 0, none⟩), .slice (some ⟨w.heap.size, 0, none⟩) ks.length ks.length] (w.alloc (ksObj ks)) fun e w' => e = .returned (wantV ts s ks) ∧ RR rb gl cl ts (wantQ ts s ks) w' ∧ PF rb w w' :=
  (want_any (h.alloc (ksObj ks)) ks w.heap.size hl h0 (ks_cells (heap_alloc_new w _))).mono fun e w' ⟨h1, h2, h3⟩ => ⟨h1, h2, ((PF.refl rb w).alloc _).trans h3⟩
theorem wantQ_yes {ts : List Tok} {s : Q} {ks : List Nat} (h : ks.contains (kindOf (tokAt ts s.i)) = true) : wantQ ts s ks = { s with i := s.i + 1 } := by unfold wantQ; rw [if_pos h]
theorem wantQ_no {ts : List Tok} {s : Q} {ks : List Nat} (h : ks.contains (kindOf (tokAt ts s.i)) = false) : wantQ ts s ks = failQ ts s := by unfold wantQ; rw [h]; rfl
theorem failQ_twice (ts : List Tok) (s : Q) : failQ ts (failQ ts s) = failQ ts s := by unfold failQ; simp
theorem one_contains (k x : Nat) : [k].contains x = decide (x = k) := by
  rw [Bool.eq_iff_iff, List.contains_iff_mem]; simp

set_option maxHeartbeats 2000000 in
theorem bracketed_any {f rb gl cl : Nat} {ts : List Tok} {s : Q} {w : World} (hf : FormOK f 152 6 rb gl cl ts) (h : RR rb gl cl ts s w) (hW : ∀ t ∈ ts, TokW t) (hgood : s.bad = false) (hk : kindOf (tokAt ts s.i) = 3) {g : Nat} (hg : g ≤ f) {L : List Pt} {a r : Rd} (hPa : P g 6 ts (s.i + 1) L 0 = some a)
    (hr : (a.ok = true ∧ isW (tokAt ts a.i) [41] = true ∧ r = { a with i := a.i + 1 }) ∨ (¬ (a.ok = true ∧ isW (tokAt ts a.i) [41] = true) ∧ r.ok = false ∧ r.i = a.i)) :
    Calls Tryz.prog 285 #[.pointer (some ⟨rb, 0, none⟩)] w (LeftC rb gl cl ts s w r) := by
  have HW1 := want_new h [3] (by decide) (by decide)
  rw [wantQ_yes (by rw [one_contains, hk]; rfl)] at HW1
  have HR : Hid _ := hr
  have HP : Hid _ := hPa
  have HG : Hid _ := hgood
  clear h hk hr hPa hgood
  generalize wantV ts s [3] = wv at *
  go_enter Tryz.func285, Tryz.ntmps285
  go_wp2_with fail
  refine HW1.mono ?_
  rintro e w1 ⟨rfl, h1, F1⟩
  clear HW1
  go_wp2_with fail
  refine (hf g hg _ w1 L a h1 HG.out HP.out).mono ?_
  rintro e w2 ⟨b, rfl, F2, hL⟩
  have hst : ∃ s2, RR rb gl cl ts s2 w2 ∧ ((a.ok = true ∧ s2 = { s with i := a.i } ∧ CondAt a.L rb w2 a.top b) ∨ (a.ok = false ∧ s2 = failQ ts { s with i := a.i })) := by
    rcases hL with ⟨ok, hr, hc⟩ | ⟨ok, hr⟩
    · exact ⟨_, hr, .inl ⟨ok, rfl, hc⟩⟩
    · exact ⟨_, hr, .inr ⟨ok, rfl⟩⟩
  obtain ⟨s2, h2, hst⟩ := hst
  have HW2 := want_new h2 [4] (by decide) (by decide)
  have hQ : Hid (wantQ ts s2 [4] = wantQ ts s2 [4]) := rfl
  have HF2 : Hid _ := F1.trans F2
  have HST : Hid _ := hst
  have H2 : Hid _ := h2
  clear hL F1 F2 h1 hst h2
  generalize wantV ts s2 [4] = wv2 at *
  go_wp2_with fail
  refine HW2.mono ?_
  rintro e w3 ⟨rfl, h3, F3⟩
  clear HW2
  go_wp2_with fail
  go_ret
  refine ⟨b, rfl, HF2.out.trans F3, ?_⟩
  have ht := hW _ (tokAt_mem H2.out.lt)
  have hiw := isW_iff ht (x := [41]) (by decide)
  rw [show kn [41] = 4 from by decide] at hiw
  rcases HST.out with ⟨ok, rfl, hc⟩ | ⟨ok, rfl⟩
  · simp only [] at hiw h3 hc ht
    rcases HR.out with ⟨_, hw, rfl⟩ | ⟨hno, rok, ri⟩
    · rw [wantQ_yes (by rw [one_contains]; simpa using hiw.1 hw)] at h3
      exact .inl ⟨ok, h3, hc.pf H2.out F3⟩
    · have hnw : ¬ isW (tokAt ts a.i) [41] = true := fun e => hno ⟨ok, e⟩
      rw [wantQ_no (by rw [one_contains]; simpa using fun e => hnw (hiw.2 e))] at h3
      exact .inr ⟨rok, by rw [ri]; exact h3⟩
  · rcases HR.out with ⟨yes, _⟩ | ⟨_, rok, ri⟩
    · rw [ok] at yes; simp at yes
    · rw [wantQ_no (by rw [one_contains, end_kind H2.out rfl]; rfl), failQ_twice] at h3
      exact .inr ⟨rok, by rw [ri]; exact h3⟩
end Go.Proofs.YtfkdailfcmnjlaaGreatDoor

namespace Go.Proofs.YtfkdailfcmnjlaaGreatDoor
open Go Go.RowKit
set_option maxRecDepth 100000
attribute [local go_sem ↓] Go.wp_at_zero Go.wp_at_succ

set_option maxHeartbeats 2000000 in
theorem negation_over {rb gl cl : Nat} {ts : List Tok} {s : Q} {w : World} (h : RR rb gl cl ts s w) (hk : kindOf (tokAt ts s.i) = 19) (R : Nat → World → Prop)
    (HC : ∀ w1, RR rb gl cl ts { s with i := s.i + 1 } w1 → PF rb w w1 → Calls Tryz.prog 267 #[.pointer (some ⟨rb, 0, none⟩)] w1 fun e w' => ∃ b, e = .returned (.pointer (some ⟨b, 0, none⟩)) ∧ PF rb w1 w' ∧ R b w') :
    Calls Tryz.prog 278 #[.pointer (some ⟨rb, 0, none⟩)] w fun e w' => ∃ b w3, e = .returned (.pointer (some ⟨w3.heap.size + 1, 0, none⟩)) ∧ R b w3 ∧ PF rb w w3 ∧ w' = overW w3 (tokAt ts s.i) [b] := by
  have HJ : Hid (∀ w3 b, overW w3 (tokAt ts s.i) [b] = (w3.alloc (.cells #[.pointer (some ⟨b, 0, none⟩)] 161 (0, 0))).alloc (.cells #[.int .i64 (kindOf (tokAt ts s.i)), .int .i64 (tokAt ts s.i).pl, .int .i64 (nmOf (tokAt ts s.i)), S (ownOf (tokAt ts s.i)), .slice (some ⟨w3.heap.size, 0, none⟩) 1 1, .int .i64 0] 229 (0, 0))) := fun _ _ => rfl
  have HT := want_new h [19] (by decide) (by decide)
  have hct : [19].contains (kindOf (tokAt ts s.i)) = true := by rw [one_contains, hk]; rfl
  rw [wantQ_yes hct] at HT
  unfold wantV at HT
  rw [if_pos hct] at HT
  unfold wordV at HT
  clear hct hk
  go_enter Tryz.func278, Tryz.ntmps278
  go_wp2_with fail
  refine HT.mono ?_
  rintro e w1 ⟨rfl, h1, F1⟩
  clear HT
  generalize kindOf (tokAt ts s.i) = tk at *
  generalize (tokAt ts s.i).pl = tp at *
  generalize nmOf (tokAt ts s.i) = tm at *
  generalize ownOf (tokAt ts s.i) = tt at *
  have hlt1 := h1.rlt
  have h2 := (h1.alloc (wvObj tk tp tm tt)).drew
  have F2 := ((F1.alloc (wvObj tk tp tm tt)).drew)
  have hx2 : (w1.alloc (wvObj tk tp tm tt)).drew.heap[w1.heap.size]? = some (wvObj tk tp tm tt) := heap_alloc_new w1 _
  have HCD := HC _ h2 F2
  have e1 : w1.heap.size ≠ rb := by omega
  have hl2 : w1.heap.size < (w1.alloc (wvObj tk tp tm tt)).drew.heap.size := lt_of_get hx2
  have keepF : ∀ w', PF rb (w1.alloc (wvObj tk tp tm tt)).drew w' → (w'.cell? ⟨w1.heap.size, 0, none⟩ = some (.int .i64 tk) ∧ w'.cell? ⟨w1.heap.size, 1, none⟩ = some (.int .i64 tp) ∧ w'.cell? ⟨w1.heap.size, 2, none⟩ = some (.int .i64 tm) ∧ w'.cell? ⟨w1.heap.size, 3, none⟩ = some (S tt)) := fun w' hf =>
    (wv_cells (by rw [hf.block _ hl2 e1]; exact hx2)).1
  have KF : Hid _ := keepF
  have H2 : Hid _ := h2
  have HF2 : Hid _ := F2
  have hS := keepF _ (PF.refl _ _)
  clear HC h1 F1 h2 F2 hx2 keepF h
  unfold wvObj at HCD KF H2 HF2 hS hl2
  go_wp2_with fail
  obtain ⟨x0, x1, x2, x3⟩ := hS
  show Code.wp _ _ _ _ (w1.alloc (.cells #[.int .i64 tk, .int .i64 tp, .int .i64 tm, S tt] 160 (0, 0)))
  generalize hg : w1.alloc (.cells #[.int .i64 tk, .int .i64 tp, .int .i64 tm, S tt] 160 (0, 0)) = w2 at *
  generalize w1.heap.size = bx at *
  clear hg hlt1
  go_region_held3 (fun w' => w'.cell? ⟨bx, 0, none⟩ = some (.int .i64 tk) ∧ w'.cell? ⟨bx, 1, none⟩ = some (.int .i64 tp) ∧ w'.cell? ⟨bx, 2, none⟩ = some (.int .i64 tm) ∧ w'.cell? ⟨bx, 3, none⟩ = some (S tt)) (first | exact KF.out _ hF3 | go_keep) ((refine HCD.mono ?_; rintro e w3 ⟨b, rfl, hF3, hR⟩))
  rename_i hHeld
  clear hHeld
  go_wp2_with fail
  go_ret
  exact ⟨b, w3, rfl, hR, HF2.out.trans hF3, (HJ.out w3 b).symm⟩
end Go.Proofs.YtfkdailfcmnjlaaGreatDoor

namespace Go.Proofs.YtfkdailfcmnjlaaGreatDoor
open Go Go.RowKit
set_option maxRecDepth 100000

/-- What reading leaves, without the answer itself. -/
def LeftS (rb gl cl : Nat) (ts : List Tok) (s : Q) (r : Rd) (b : Nat) (w' : World) : Prop := (r.ok = true ∧ RR rb gl cl ts { s with i := r.i } w' ∧ CondAt r.L rb w' r.top b) ∨ (r.ok = false ∧ RR rb gl cl ts (failQ ts { s with i := r.i }) w')
/-- The state in which the next condition is asked. -/
def Nxt (ts : List Tok) (s : Q) (f : Nat) (c a : Rd) (s2 : Q) : Prop := (s2 = { s with i := a.i + 1 } ∧ a.ok = true ∧ P f 6 ts (a.i + 1) a.L 0 = some c) ∨ (c.ok = false ∧ s2 = failQ ts { s with i := c.i })

theorem left_want {rb gl cl : Nat} {ts : List Tok} {s : Q} {a c : Rd} {b f : Nat} {w : World} {x : List UInt8} (h : LeftS rb gl cl ts s a b w) (hW : ∀ t ∈ ts, TokW t) (hN : Nx f ts a c x) (hx : x ∈ spell.drop 3) :
    ∃ s1, RR rb gl cl ts s1 w ∧ Nxt ts s f c a (wantQ ts s1 [kn x]) := by
  unfold Nx at hN
  rcases h with ⟨ok, h1, hc⟩ | ⟨ok, h1⟩
  · refine ⟨_, h1, ?_⟩
    have ht := hW _ (tokAt_mem h1.lt)
    have hiw := isW_iff ht hx
    simp only [] at hiw
    by_cases hw : isW (tokAt ts a.i) x = true
    · rw [if_pos ⟨ok, hw⟩] at hN
      exact .inl ⟨wantQ_yes (by rw [one_contains]; simpa using hiw.1 hw), ok, hN⟩
    · rw [if_neg (fun e => hw e.2)] at hN
      exact .inr ⟨hN.1, by rw [hN.2]; exact wantQ_no (by rw [one_contains]; simpa using fun e => hw (hiw.2 e))⟩
  · rw [if_neg (fun e => by rw [ok] at e; simp at e)] at hN
    refine ⟨_, h1, .inr ⟨hN.1, ?_⟩⟩
    have := spell_big x hx
    have hkn : ¬ (0 = kn x) := by unfold kn; omega
    rw [wantQ_no (by rw [one_contains, end_kind h1 rfl]; simpa using hkn), failQ_twice, hN.2]
theorem next_cond {f rb gl cl : Nat} {ts : List Tok} {s s2 : Q} {a c : Rd} {w : World} (hf : FormOK f 152 6 rb gl cl ts) (hgood : s.bad = false) (h : RR rb gl cl ts s2 w) (hn : Nxt ts s f c a s2) :
    Calls Tryz.prog 152 #[.pointer (some ⟨rb, 0, none⟩)] w fun e w' => ∃ b, e = .returned (.pointer (some ⟨b, 0, none⟩)) ∧ PF rb w w' ∧ LeftS rb gl cl ts s c b w' := by
  rcases hn with ⟨rfl, _, hp⟩ | ⟨ok, rfl⟩
  · exact hf f (Nat.le_refl _) { s with i := a.i + 1 } w a.L c h hgood hp
  · refine (condition_end _ w h rfl rfl).mono ?_
    rintro e w' ⟨b, h1, h2, h3⟩
    exact ⟨b, h1, h2, .inr ⟨ok, h3⟩⟩
end Go.Proofs.YtfkdailfcmnjlaaGreatDoor

namespace Go.Proofs.YtfkdailfcmnjlaaGreatDoor
open Go Go.RowKit
set_option maxRecDepth 100000
attribute [local go_sem ↓] Go.wp_at_zero Go.wp_at_succ

set_option maxHeartbeats 4000000 in
theorem whether_any {f rb gl cl : Nat} {ts : List Tok} {s : Q} {w : World} (hf : FormOK f 152 6 rb gl cl ts) (h : RR rb gl cl ts s w) (hW : ∀ t ∈ ts, TokW t) (hgood : s.bad = false) (hk : kindOf (tokAt ts s.i) = 14) {L : List Pt} {a b c r : Rd} (hPa : P f 6 ts (s.i + 1) L 0 = some a)
    (hNb : Nx f ts a b wThen) (hNc : Nx f ts b c wElse) (hrc : r.ok = c.ok) (hri : r.i = c.i) (hrp : c.ok = true → a.ok = true ∧ b.ok = true ∧ r = put c (tokAt ts s.i) [a.top, b.top, c.top]) :
    Calls Tryz.prog 214 #[.pointer (some ⟨rb, 0, none⟩)] w (LeftC rb gl cl ts s w r) := by
  have HJ : Hid (∀ w3 b1 b2 b3, overW w3 (tokAt ts s.i) [b1, b2, b3] = (w3.alloc (.cells #[.pointer (some ⟨b1, 0, none⟩), .pointer (some ⟨b2, 0, none⟩), .pointer (some ⟨b3, 0, none⟩)] 161 (0, 0))).alloc (.cells #[.int .i64 (kindOf (tokAt ts s.i)), .int .i64 (tokAt ts s.i).pl, .int .i64 (nmOf (tokAt ts s.i)), S (ownOf (tokAt ts s.i)), .slice (some ⟨w3.heap.size, 0, none⟩) 3 3, .int .i64 0] 229 (0, 0))) := fun _ _ _ _ => rfl
  have HT := want_new h [14] (by decide) (by decide)
  have hct : [14].contains (kindOf (tokAt ts s.i)) = true := by rw [one_contains, hk]; rfl
  rw [wantQ_yes hct] at HT
  unfold wantV at HT
  rw [if_pos hct] at HT
  unfold wordV at HT
  have HG : Hid _ := hgood
  have HPa : Hid _ := hPa
  have HNb : Hid _ := hNb
  have HNc : Hid _ := hNc
  have HRc : Hid _ := hrc
  have HRi : Hid _ := hri
  have HRp : Hid _ := hrp
  have HW : Hid _ := hW
  clear hct hk h hgood hPa hNb hNc hrc hri hrp hW
  generalize htk : tokAt ts s.i = t0 at HJ HT HRp
  clear htk
  generalize hk1 : kindOf t0 = tk at *
  generalize hk2 : t0.pl = tp at *
  generalize hk3 : nmOf t0 = tm at *
  generalize hk4 : ownOf t0 = tt at *
  clear hk1 hk2 hk3 hk4
  go_enter Tryz.func214, Tryz.ntmps214
  go_wp2_with fail
  refine HT.mono ?_
  rintro e w1 ⟨rfl, h1, F1⟩
  clear HT
  have hlt1 := h1.rlt
  have h2 := h1.alloc (wvObj tk tp tm tt)
  have F2 := F1.alloc (wvObj tk tp tm tt)
  have hx2 : (w1.alloc (wvObj tk tp tm tt)).heap[w1.heap.size]? = some (wvObj tk tp tm tt) := heap_alloc_new w1 _
  have e1 : w1.heap.size ≠ rb := by omega
  unfold wvObj at h2 F2 hx2
  clear h1 F1
  go_wp2_with fail
  show Calls _ _ _ (w1.alloc (.cells #[.int .i64 tk, .int .i64 tp, .int .i64 tm, S tt] 160 (0, 0))) _
  have hl2 : w1.heap.size < (w1.alloc (.cells #[.int .i64 tk, .int .i64 tp, .int .i64 tm, S tt] 160 (0, 0))).heap.size := lt_of_get hx2
  generalize w1.alloc (.cells #[.int .i64 tk, .int .i64 tp, .int .i64 tm, S tt] 160 (0, 0)) = w2 at *
  generalize w1.heap.size = bx at *
  refine (hf f (Nat.le_refl _) { s with i := s.i + 1 } w2 L a h2 HG.out HPa.out).mono ?_
  rintro e w3 ⟨ba, rfl, F3, hLa⟩
  have hLa : LeftS rb gl cl ts s a ba w3 := hLa
  obtain ⟨s3, h3, hN3⟩ := left_want hLa HW.out HNb.out (by decide)
  rw [show kn wThen = 15 from by decide] at hN3
  have HW3 := want_new h3 [15] (by decide) (by decide)
  have HLa : Hid _ := hLa
  have HN3 : Hid _ := hN3
  clear hLa hN3 h3 h2
  generalize wantV ts s3 [15] = wv3 at *
  go_wp2_with fail
  refine HW3.mono ?_
  rintro e w4 ⟨rfl, h4, F4⟩
  clear HW3
  go_wp2_with fail
  refine (next_cond hf HG.out h4 HN3.out).mono ?_
  rintro e w5 ⟨bb, rfl, F5, hLb⟩
  obtain ⟨s5, h5, hN5⟩ := left_want hLb HW.out HNc.out (by decide)
  rw [show kn wElse = 16 from by decide] at hN5
  have HW5 := want_new h5 [16] (by decide) (by decide)
  have HLb : Hid _ := hLb
  have HN5 : Hid _ := hN5
  have F35 : PF rb w3 w5 := F4.trans F5
  clear hLb hN5 h5 h4 F4 F5
  generalize wantV ts s5 [16] = wv5 at *
  go_wp2_with fail
  refine HW5.mono ?_
  rintro e w6 ⟨rfl, h6, F6⟩
  clear HW5
  have HCD := next_cond hf HG.out h6.drew HN5.out
  have F26 : PF rb w2 w6.drew := ((F3.trans F35).trans F6).drew
  have F56 : PF rb w5 w6.drew := F6.drew
  have F36 : PF rb w3 w6.drew := (F35.trans F6).drew
  have hx6 : w6.drew.heap[bx]? = some (.cells #[.int .i64 tk, .int .i64 tp, .int .i64 tm, S tt] 160 (0, 0)) := by rw [F26.block _ hl2 e1]; exact hx2
  have hl6 := lt_of_get hx6
  have keepF : ∀ w', PF rb w6.drew w' → (w'.cell? ⟨bx, 0, none⟩ = some (.int .i64 tk) ∧ w'.cell? ⟨bx, 1, none⟩ = some (.int .i64 tp) ∧ w'.cell? ⟨bx, 2, none⟩ = some (.int .i64 tm) ∧ w'.cell? ⟨bx, 3, none⟩ = some (S tt)) := fun w' hf =>
    (wv_cells (by rw [hf.block _ hl6 e1]; exact hx6)).1
  have KF : Hid _ := keepF
  have hS := keepF _ (PF.refl _ _)
  obtain ⟨x0, x1, x2, x3⟩ := hS
  have HF26 : Hid _ := F2.trans F26
  have HF36 : Hid _ := F36
  have HF56 : Hid _ := F56
  clear keepF F26 F56 F36 F2 F3 F35 F6 h6 hx6 hx2 hl2
  go_wp2_with fail
  go_region_held3 (fun w' => w'.cell? ⟨bx, 0, none⟩ = some (.int .i64 tk) ∧ w'.cell? ⟨bx, 1, none⟩ = some (.int .i64 tp) ∧ w'.cell? ⟨bx, 2, none⟩ = some (.int .i64 tm) ∧ w'.cell? ⟨bx, 3, none⟩ = some (S tt)) (first | exact KF.out _ hF7 | go_keep) ((refine HCD.mono ?_; rintro e w7 ⟨bc, rfl, hF7, hLc⟩))
  rename_i hHeld
  clear hHeld x0 x1 x2 x3 HCD
  have HLc : Hid _ := hLc
  clear hLc
  go_wp2_with fail
  go_ret
  have hE := HJ.out w7 ba bb bc
  have hB := over_below w7 t0 [ba, bb, bc]
  have hF7' : PF rb w (overW w7 t0 [ba, bb, bc]) := (HF26.out.trans hF7).trans (PF.of_below hB)
  rw [hE] at hB hF7'
  refine ⟨w7.heap.size + 1, rfl, hF7', ?_⟩
  have hmoreN : ∀ {p q : Rd} {x : List UInt8}, Nx f ts p q x → q.ok = true → ∃ new, q.L = p.L ++ new := fun {p q x} hN ok => by
    unfold Nx at hN
    by_cases hc : p.ok = true ∧ isW (tokAt ts p.i) x = true
    · rw [if_pos hc] at hN; exact P_more hN ok (by omega)
    · rw [if_neg hc] at hN; rw [hN.1] at ok; simp at ok
  rcases HLc.out with ⟨ok, h7, hcc⟩ | ⟨ok, h7⟩
  · obtain ⟨oka, okb, rfl⟩ := HRp.out ok
    refine .inl ⟨rfl, h7.below hB, ?_⟩
    rw [← hE]
    rcases HLa.out with ⟨_, ha, hca⟩ | ⟨no, _⟩
    · rcases HLb.out with ⟨_, hb, hcb⟩ | ⟨no, _⟩
      · refine over_at h7.rlt rfl (by simp) fun j hj => ?_
        match j, hj with
        | 0, _ => exact more_at (more_at (hca.pf ha (HF36.out.trans hF7)) (hmoreN HNb.out okb)) (hmoreN HNc.out ok)
        | 1, _ => exact more_at (hcb.pf hb (HF56.out.trans hF7)) (hmoreN HNc.out ok)
        | 2, _ => exact hcc
      · rw [okb] at no; simp at no
    · rw [oka] at no; simp at no
  · exact .inr ⟨by rw [HRc.out]; exact ok, by rw [HRi.out]; exact h7.below hB⟩
end Go.Proofs.YtfkdailfcmnjlaaGreatDoor

namespace Go.Proofs.YtfkdailfcmnjlaaGreatDoor
open Go Go.RowKit
set_option maxRecDepth 100000
attribute [local go_sem ↓] Go.wp_at_zero Go.wp_at_succ

set_option maxHeartbeats 1000000 in
theorem sum_step {f rb gl cl : Nat} {ts : List Tok} {s : Q} {w : World} (hf : FormOK f 284 5 rb gl cl ts) (hW : ∀ t ∈ ts, TokW t) (h : RR rb gl cl ts s w) (hgood : s.bad = false) {L : List Pt} {r : Rd} (hP : P (f + 1) 4 ts s.i L 0 = some r) :
    Calls Tryz.prog 283 #[.pointer (some ⟨rb, 0, none⟩)] w (LeftC rb gl cl ts s w r) := by
  have hnew : (w.alloc (ksObj [6, 7])).heap[w.heap.size]? = some (ksObj [6, 7]) := heap_alloc_new w _
  have HF := chain_any (h.alloc (ksObj [6, 7])) hW hgood 4 284 (by omega) hf ent_one w.heap.size hnew L r hP
  unfold mv at HF
  have HA : Hid (PF rb w (w.alloc (ksObj [6, 7]))) := (PF.refl rb w).alloc _
  clear h hgood hnew hP hf hW
  go_enter Tryz.func283, Tryz.ntmps283
  go_wp2_with fail
  refine HF.mono ?_
  rintro e w' ⟨b, rfl, h1, h2⟩
  clear HF
  go_wp2_with fail
  go_ret
  exact ⟨b, rfl, HA.out.trans h1, h2⟩

set_option maxHeartbeats 1000000 in
theorem compared_step {f rb gl cl : Nat} {ts : List Tok} {s : Q} {w : World} (hf : FormOK f 283 4 rb gl cl ts) (hW : ∀ t ∈ ts, TokW t) (h : RR rb gl cl ts s w) (hgood : s.bad = false) {L : List Pt} {r : Rd} (hP : P (f + 1) 3 ts s.i L 0 = some r) :
    Calls Tryz.prog 279 #[.pointer (some ⟨rb, 0, none⟩)] w (LeftC rb gl cl ts s w r) := by
  have hnew : (w.alloc (ksObj [8, 10, 9])).heap[w.heap.size]? = some (ksObj [8, 10, 9]) := heap_alloc_new w _
  have HF := pair_any (h.alloc (ksObj [8, 10, 9])) hW hgood 283 hf ent_sum w.heap.size hnew L r hP
  unfold mv at HF
  have HA : Hid (PF rb w (w.alloc (ksObj [8, 10, 9]))) := (PF.refl rb w).alloc _
  clear h hgood hnew hP hf hW
  go_enter Tryz.func279, Tryz.ntmps279
  go_wp2_with fail
  refine HF.mono ?_
  rintro e w' ⟨b, rfl, h1, h2⟩
  clear HF
  go_wp2_with fail
  go_ret
  exact ⟨b, rfl, HA.out.trans h1, h2⟩

set_option maxHeartbeats 1000000 in
theorem both_step {f rb gl cl : Nat} {ts : List Tok} {s : Q} {w : World} (hf : FormOK f 267 2 rb gl cl ts) (hW : ∀ t ∈ ts, TokW t) (h : RR rb gl cl ts s w) (hgood : s.bad = false) {L : List Pt} {r : Rd} (hP : P (f + 1) 1 ts s.i L 0 = some r) :
    Calls Tryz.prog 247 #[.pointer (some ⟨rb, 0, none⟩)] w (LeftC rb gl cl ts s w r) := by
  have hnew : (w.alloc (ksObj [18])).heap[w.heap.size]? = some (ksObj [18]) := heap_alloc_new w _
  have HF := chain_any (h.alloc (ksObj [18])) hW hgood 1 267 (by omega) hf ent_part w.heap.size hnew L r hP
  unfold mv at HF
  have HA : Hid (PF rb w (w.alloc (ksObj [18]))) := (PF.refl rb w).alloc _
  clear h hgood hnew hP hf hW
  go_enter Tryz.func247, Tryz.ntmps247
  go_wp2_with fail
  refine HF.mono ?_
  rintro e w' ⟨b, rfl, h1, h2⟩
  clear HF
  go_wp2_with fail
  go_ret
  exact ⟨b, rfl, HA.out.trans h1, h2⟩

set_option maxHeartbeats 1000000 in
theorem choice_step {f rb gl cl : Nat} {ts : List Tok} {s : Q} {w : World} (hf : FormOK f 247 1 rb gl cl ts) (hW : ∀ t ∈ ts, TokW t) (h : RR rb gl cl ts s w) (hgood : s.bad = false) {L : List Pt} {r : Rd} (hP : P (f + 1) 0 ts s.i L 0 = some r) :
    Calls Tryz.prog 215 #[.pointer (some ⟨rb, 0, none⟩)] w (LeftC rb gl cl ts s w r) := by
  have hnew : (w.alloc (ksObj [17])).heap[w.heap.size]? = some (ksObj [17]) := heap_alloc_new w _
  have HF := chain_any (h.alloc (ksObj [17])) hW hgood 0 247 (by omega) hf ent_both w.heap.size hnew L r hP
  unfold mv at HF
  have HA : Hid (PF rb w (w.alloc (ksObj [17]))) := (PF.refl rb w).alloc _
  clear h hgood hnew hP hf hW
  go_enter Tryz.func215, Tryz.ntmps215
  go_wp2_with fail
  refine HF.mono ?_
  rintro e w' ⟨b, rfl, h1, h2⟩
  clear HF
  go_wp2_with fail
  go_ret
  exact ⟨b, rfl, HA.out.trans h1, h2⟩

set_option maxHeartbeats 1000000 in
theorem one_fork {rb : Nat} {w : World} {R : Nat → World → Prop} (HF : Calls Tryz.prog 213 #[.pointer (some ⟨rb, 0, none⟩), .int .i64 3, mv 285 rb, mv 286 rb] w fun e w' => ∃ b, e = .returned (.pointer (some ⟨b, 0, none⟩)) ∧ R b w') :
    Calls Tryz.prog 284 #[.pointer (some ⟨rb, 0, none⟩)] w fun e w' => ∃ b, e = .returned (.pointer (some ⟨b, 0, none⟩)) ∧ R b w' := by
  unfold mv at HF
  go_enter Tryz.func284, Tryz.ntmps284
  go_wp2_with fail
  refine HF.mono ?_
  rintro e w' ⟨b, rfl, h1⟩
  clear HF
  go_wp2_with fail
  go_ret
  exact ⟨b, rfl, h1⟩

set_option maxHeartbeats 1000000 in
theorem part_fork {rb : Nat} {w : World} {R : Nat → World → Prop} (HF : Calls Tryz.prog 213 #[.pointer (some ⟨rb, 0, none⟩), .int .i64 19, mv 278 rb, mv 279 rb] w fun e w' => ∃ b, e = .returned (.pointer (some ⟨b, 0, none⟩)) ∧ R b w') :
    Calls Tryz.prog 267 #[.pointer (some ⟨rb, 0, none⟩)] w fun e w' => ∃ b, e = .returned (.pointer (some ⟨b, 0, none⟩)) ∧ R b w' := by
  unfold mv at HF
  go_enter Tryz.func267, Tryz.ntmps267
  go_wp2_with fail
  refine HF.mono ?_
  rintro e w' ⟨b, rfl, h1⟩
  clear HF
  go_wp2_with fail
  go_ret
  exact ⟨b, rfl, h1⟩

set_option maxHeartbeats 1000000 in
theorem condition_fork {rb : Nat} {w : World} {R : Nat → World → Prop} (HF : Calls Tryz.prog 213 #[.pointer (some ⟨rb, 0, none⟩), .int .i64 14, mv 214 rb, mv 215 rb] w fun e w' => ∃ b, e = .returned (.pointer (some ⟨b, 0, none⟩)) ∧ R b w') :
    Calls Tryz.prog 152 #[.pointer (some ⟨rb, 0, none⟩)] w fun e w' => ∃ b, e = .returned (.pointer (some ⟨b, 0, none⟩)) ∧ R b w' := by
  unfold mv at HF
  go_enter Tryz.func152, Tryz.ntmps152
  go_wp2_with fail
  refine HF.mono ?_
  rintro e w' ⟨b, rfl, h1⟩
  clear HF
  go_wp2_with fail
  go_ret
  exact ⟨b, rfl, h1⟩
end Go.Proofs.YtfkdailfcmnjlaaGreatDoor

namespace Go.Proofs.YtfkdailfcmnjlaaGreatDoor
open Go Go.RowKit
set_option maxRecDepth 100000

theorem drewC {rb gl cl : Nat} {ts : List Tok} {s : Q} {w : World} {r : Rd} {e : Ending} {w' : World} (h : LeftC rb gl cl ts s w.drew r e w') : ∃ b, e = .returned (.pointer (some ⟨b, 0, none⟩)) ∧ (PF rb w w' ∧ LeftS rb gl cl ts s r b w') := by
  obtain ⟨b, h1, h2, h3⟩ := h
  exact ⟨b, h1, (PF.refl rb w).drew.trans h2, h3⟩
theorem kind_is {ts : List Tok} {t : Tok} (ht : TokW t) {x : List UInt8} (hx : x ∈ spell.drop 3) {k : Nat} (hk : kn x = k) (h : isW t x = true) : kindOf t = k := by rw [← hk]; exact (isW_iff ht hx).1 h
theorem kind_isnt {ts : List Tok} {t : Tok} (ht : TokW t) {x : List UInt8} (hx : x ∈ spell.drop 3) {k : Nat} (hk : kn x = k) (h : ¬ isW t x = true) : kindOf t ≠ k := by rw [← hk]; exact fun e => h ((isW_iff ht hx).2 e)

theorem pone_step {f rb gl cl : Nat} {ts : List Tok} {s : Q} {w : World} (hf : FormOK f 152 6 rb gl cl ts) (hW : ∀ t ∈ ts, TokW t) (h : RR rb gl cl ts s w) (hgood : s.bad = false) {L : List Pt} {r : Rd} (hP : P (f + 1) 5 ts s.i L 0 = some r) :
    Calls Tryz.prog 284 #[.pointer (some ⟨rb, 0, none⟩)] w (LeftC rb gl cl ts s w r) := by
  have ht := hW _ (tokAt_mem h.lt)
  by_cases hw : isW (tokAt ts s.i) [40] = true
  · have hk := kind_is (ts := ts) ht (x := [40]) (by decide) (k := 3) (by decide) hw
    obtain ⟨a, hPa, hr⟩ := one_open hP hw
    exact one_fork (fork_yes h 3 _ _ hk ent_bracketed (fun b w' => PF rb w w' ∧ LeftS rb gl cl ts s r b w') ((bracketed_any hf h.drew hW hgood hk (Nat.le_refl _) hPa hr).mono fun e w' hl => drewC hl))
  · have hk := kind_isnt (ts := ts) ht (x := [40]) (by decide) (k := 3) (by decide) hw
    refine one_fork (fork_no h 3 _ _ hk ent_single (fun b w' => PF rb w w' ∧ LeftS rb gl cl ts s r b w') ?_)
    rcases one_alone hP hw with ⟨ha, rfl⟩ | ⟨ha, rfl⟩
    · exact (single_yes h.drew ht ha L).mono fun e w' hl => drewC hl
    · exact (single_no h.drew ht ha).mono fun e w' hl => drewC hl
theorem part_step {f rb gl cl : Nat} {ts : List Tok} {s : Q} {w : World} (hf : FormOK f 267 2 rb gl cl ts) (hf3 : FormOK f 279 3 rb gl cl ts) (hW : ∀ t ∈ ts, TokW t) (h : RR rb gl cl ts s w) (hgood : s.bad = false) {L : List Pt} {r : Rd} (hP : P (f + 1) 2 ts s.i L 0 = some r) :
    Calls Tryz.prog 267 #[.pointer (some ⟨rb, 0, none⟩)] w (LeftC rb gl cl ts s w r) := by
  have ht := hW _ (tokAt_mem h.lt)
  by_cases hw : isW (tokAt ts s.i) wNot = true
  · have hk := kind_is (ts := ts) ht (x := wNot) (by decide) (k := 19) (by decide) hw
    obtain ⟨a, hPa, hok, hi, hput⟩ := not_yes hP hw
    refine part_fork (fork_yes h 19 _ _ hk ent_negation (fun b w' => PF rb w w' ∧ LeftS rb gl cl ts s r b w') ?_)
    refine (negation_over h.drew hk (LeftS rb gl cl ts s a) (fun w1 h1 F1 => hf f (Nat.le_refl _) { s with i := s.i + 1 } w1 L a h1 hgood hPa)).mono ?_
    rintro e w' ⟨b, w3, rfl, hL, F3, rfl⟩
    have hB := over_below w3 (tokAt ts s.i) [b]
    refine ⟨_, rfl, ((PF.refl rb w).drew.trans F3).trans (PF.of_below hB), ?_⟩
    rcases hL with ⟨ok, h3, hc⟩ | ⟨ok, h3⟩
    · have e := hput ok
      subst e
      refine .inl ⟨rfl, h3.below hB, ?_⟩
      refine over_at h3.rlt rfl (by simp) fun j hj => ?_
      match j, hj with
      | 0, _ => exact hc
    · exact .inr ⟨by rw [hok]; exact ok, by rw [hi]; exact h3.below hB⟩
  · have hk := kind_isnt (ts := ts) ht (x := wNot) (by decide) (k := 19) (by decide) hw
    exact part_fork (fork_no h 19 _ _ hk ent_compared (fun b w' => PF rb w w' ∧ LeftS rb gl cl ts s r b w') ((hf3 f (Nat.le_refl _) s _ L r h.drew hgood (not_no hP hw)).mono fun e w' hl => drewC hl))
theorem pcondition_step {f rb gl cl : Nat} {ts : List Tok} {s : Q} {w : World} (hf : FormOK f 152 6 rb gl cl ts) (hf0 : FormOK f 215 0 rb gl cl ts) (hW : ∀ t ∈ ts, TokW t) (h : RR rb gl cl ts s w) (hgood : s.bad = false) {L : List Pt} {r : Rd} (hP : P (f + 1) 6 ts s.i L 0 = some r) :
    Calls Tryz.prog 152 #[.pointer (some ⟨rb, 0, none⟩)] w (LeftC rb gl cl ts s w r) := by
  have ht := hW _ (tokAt_mem h.lt)
  by_cases hw : isW (tokAt ts s.i) wIf = true
  · have hk := kind_is (ts := ts) ht (x := wIf) (by decide) (k := 14) (by decide) hw
    obtain ⟨a, b, c, hPa, hNb, hNc, hrc, hri, hrp⟩ := if_split hP hw
    exact condition_fork (fork_yes h 14 _ _ hk ent_whether (fun b w' => PF rb w w' ∧ LeftS rb gl cl ts s r b w') ((whether_any hf h.drew hW hgood hk hPa hNb hNc hrc hri hrp).mono fun e w' hl => drewC hl))
  · have hk := kind_isnt (ts := ts) ht (x := wIf) (by decide) (k := 14) (by decide) hw
    exact condition_fork (fork_no h 14 _ _ hk ent_choice (fun b w' => PF rb w w' ∧ LeftS rb gl cl ts s r b w') ((hf0 f (Nat.le_refl _) s _ L r h.drew hgood (if_not hP hw)).mono fun e w' hl => drewC hl))

/-- EVERY FORM. -/
theorem forms {rb gl cl : Nat} {ts : List Tok} (hW : ∀ t ∈ ts, TokW t) (f : Nat) :
    FormOK f 152 6 rb gl cl ts ∧ FormOK f 215 0 rb gl cl ts ∧ FormOK f 247 1 rb gl cl ts ∧ FormOK f 267 2 rb gl cl ts ∧ FormOK f 279 3 rb gl cl ts ∧ FormOK f 283 4 rb gl cl ts ∧ FormOK f 284 5 rb gl cl ts := by
  induction f with
  | zero =>
    have hz : ∀ fn lv, FormOK 0 fn lv rb gl cl ts := fun fn lv g hg s w L r _ _ hP => by
      obtain rfl : g = 0 := by omega
      rw [P] at hP; simp at hP
    exact ⟨hz _ _, hz _ _, hz _ _, hz _ _, hz _ _, hz _ _, hz _ _⟩
  | succ f ih =>
    obtain ⟨c6, c0, c1, c2, c3, c4, c5⟩ := ih
    have up : ∀ {fn lv}, FormOK f fn lv rb gl cl ts → (∀ (s1 : Q) (w1 : World) (L : List Pt) (r1 : Rd), RR rb gl cl ts s1 w1 → s1.bad = false → P (f + 1) lv ts s1.i L 0 = some r1 → Calls Tryz.prog fn #[.pointer (some ⟨rb, 0, none⟩)] w1 (LeftC rb gl cl ts s1 w1 r1)) → FormOK (f + 1) fn lv rb gl cl ts := fun {fn lv} h1 h2 g hg s w L r hr hb hP => by
      by_cases e : g = f + 1
      · subst e; exact h2 s w L r hr hb hP
      · exact h1 g (by omega) s w L r hr hb hP
    exact ⟨up c6 fun s w L r h hb hP => pcondition_step c6 c0 hW h hb hP, up c0 fun s w L r h hb hP => choice_step c1 hW h hb hP, up c1 fun s w L r h hb hP => both_step c2 hW h hb hP, up c2 fun s w L r h hb hP => part_step c2 c3 hW h hb hP, up c3 fun s w L r h hb hP => compared_step c4 hW h hb hP, up c4 fun s w L r h hb hP => sum_step c5 hW h hb hP, up c5 fun s w L r h hb hP => pone_step c6 hW h hb hP⟩
end Go.Proofs.YtfkdailfcmnjlaaGreatDoor
