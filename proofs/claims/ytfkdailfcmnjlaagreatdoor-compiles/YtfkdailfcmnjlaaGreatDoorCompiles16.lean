/-
  The program's small functions of bytes and words answer as plain Lean functions do. The program's function 'name' answers as the plain lexer does. The program's function 'sign' answers as the plain lexer does. The program's values: scalars. The program's sums and differences stay within 64 bits. The document's 'tens': a number's digits. The document's plain form of a part.
-/
import Derived.Test.YtfkdailfcmnjlaaGreatDoorCompiles01
import Derived.Test.YtfkdailfcmnjlaaGreatDoorCompiles02
import Derived.Test.YtfkdailfcmnjlaaGreatDoorCompiles04
import Derived.Test.YtfkdailfcmnjlaaGreatDoorCompiles05
import Derived.Test.YtfkdailfcmnjlaaGreatDoorCompiles06
import Derived.Test.YtfkdailfcmnjlaaGreatDoorCompiles07
import Derived.Test.YtfkdailfcmnjlaaGreatDoorCompiles08
import Derived.Test.YtfkdailfcmnjlaaGreatDoorCompiles09
import Derived.Test.YtfkdailfcmnjlaaGreatDoorCompiles10
import Derived.Test.YtfkdailfcmnjlaaGreatDoorCompiles11
import Derived.Test.YtfkdailfcmnjlaaGreatDoorCompiles12
import Derived.Test.YtfkdailfcmnjlaaGreatDoorCompiles13
import Derived.Test.YtfkdailfcmnjlaaGreatDoorCompiles14
import Derived.Test.YtfkdailfcmnjlaaGreatDoorCompiles15
import Derived.Deep.RegionHeldLaw
import Derived.Deep.RegionLaw
import Derived.WalkKit
import Derived.Deep.QuietTactic
import Derived.BigQuiet
import Derived.WalkSpells
import GoSem.Op.String
import Derived.Deep.AppendLies
import Derived.Deep.RegionHeld3
import Derived.Deep.DrawnRows
set_option linter.unusedVariables false
set_option linter.unusedSimpArgs false
namespace Go.Proofs.YtfkdailfcmnjlaaGreatDoor
open Go Go.RowKit
set_option maxRecDepth 100000

/-- The words as they are spelt, by their kinds. -/
def spell : List (List UInt8) := [[], [], [], [40], [41], [59], [43], [45], [61], [60, 61], [60], [108, 101, 116], [97, 108, 108, 111, 119], [100, 101, 110, 121], [105, 102], [116, 104, 101, 110], [101, 108, 115, 101], [111, 114], [97, 110, 100], [110, 111, 116], [116, 114, 117, 101], [102, 97, 108, 115, 101], [110, 111, 110, 101], [105, 110, 118, 105, 116, 101], [106, 111, 105, 110], [108, 101, 97, 118, 101], [98, 97, 110], [108, 101, 118, 101, 108], [114, 97, 110, 107], [110, 101, 101, 100], [119, 104, 101, 110], [115, 101, 110, 100, 101, 114], [116, 97, 114, 103, 101, 116], [119, 97, 110, 116, 115], [115, 101, 108, 102], [111, 112, 101, 110]]

/-- The table of spellings lies in its variable. -/
def Sp (w : World) : Prop := ∀ k, k < 36 → w.cell? ⟨0, k, none⟩ = some (S (spell.getD k []))
theorem Sp.pos {w : World} (h : Sp w) : 0 < w.heap.size := World.block_lt_of_cell? w _ (h 0 (by decide))
theorem Sp.below {w w' : World} (h : Sp w) {B : Nat} (hB : 0 < B) (hb : Below B w w') : Sp w' := fun k hk => by rw [hb.cell (p := ⟨0, k, none⟩) hB]; exact h k hk

set_option maxHeartbeats 400000 in
theorem spelling_any (k : Nat) (w : World) (h : Sp w) (hk : k < 36) : Calls Tryz.prog 119 #[.int .i64 k] w fun e w' => e = .returned (S (spell.getD k [])) ∧ w' = w := by
  have hc := h k hk
  have b1 : (0 : Int) ≤ (k : Int) := by omega
  have b2 : (k : Int) < 36 := by omega
  generalize spell.getD k [] = t at *
  go_enter Tryz.func119, Tryz.ntmps119
  go_wp2
  go_ret
  exact ⟨rfl, rfl⟩

set_option maxHeartbeats 400000 in
theorem isDigit_any (c : UInt8) (w : World) : Calls Tryz.prog 145 #[.int .u8 c.toNat] w fun e w' => e = .returned (.bool (isD c)) ∧ w' = w := by
  have h := c.toNat_lt
  have HE : Hid (isD c = (decide (48 ≤ c.toNat) && decide (c.toNat ≤ 57))) := rfl
  go_enter Tryz.func145, Tryz.ntmps145
  go_wp2
  all_goals go_ret
  all_goals refine ⟨ret_bool ?_, rfl⟩
  all_goals rw [HE.out, Bool.eq_iff_iff]
  all_goals simp
  all_goals omega
set_option maxHeartbeats 400000 in
theorem isLetter_any (c : UInt8) (w : World) : Calls Tryz.prog 148 #[.int .u8 c.toNat] w fun e w' => e = .returned (.bool (isL c)) ∧ w' = w := by
  have h := c.toNat_lt
  have HE : Hid (isL c = (decide (97 ≤ c.toNat) && decide (c.toNat ≤ 122))) := rfl
  go_enter Tryz.func148, Tryz.ntmps148
  go_wp2
  all_goals go_ret
  all_goals refine ⟨ret_bool ?_, rfl⟩
  all_goals rw [HE.out, Bool.eq_iff_iff]
  all_goals simp
  all_goals omega

set_option maxHeartbeats 1000000 in
theorem pastBlanks_any (l : List UInt8) (a : Nat) (w : World) (hl : l.length ≤ 1000) (ha : a ≤ l.length) : Calls Tryz.prog 101 #[S l, .int .i64 a] w fun e w' => e = .returned (.int .i64 (stop isB l a)) ∧ w' = w := by
  go_enter Tryz.func101, Tryz.ntmps101
  go_wp2_with fail
  go_loop [1] (fun i => ∃ j : Nat, a ≤ j ∧ j ≤ l.length ∧ i = .int .i64 j ∧ Hid (stop isB l a = stop isB l j)) (fun i => l.length - (intOf i).toNat)
  case atStart => exact ⟨a, by omega, by omega, rfl, rfl⟩
  case round =>
    obtain ⟨j, hkj, hj, rfl, HB⟩ := hrel
    by_cases hlt : j < l.length
    · go_wp2_with fail
      case roundEnd =>
        refine ⟨⟨j + 1, by omega, by omega, by go_num, ?_⟩, by simp [intOf]; omega⟩
        show _ = _; rw [HB.out]; exact stop_step isB l j hlt (b_yes ‹_›)
      case roundEnd =>
        refine ⟨⟨j + 1, by omega, by omega, by go_num, ?_⟩, by simp [intOf]; omega⟩
        show _ = _; rw [HB.out]; exact stop_step isB l j hlt (b_or ‹_›)
      go_ret
      refine ⟨ret_int ?_, rfl⟩
      rw [HB.out, stop_no isB l j hlt (b_and ‹_›)]
    · go_wp2_with fail
      go_ret
      refine ⟨ret_int ?_, rfl⟩
      rw [HB.out, stop_end isB l j (by omega)]

set_option maxHeartbeats 1000000 in
theorem run_digits (l : List UInt8) (w : World) (hl : l.length ≤ 1000) : Calls Tryz.prog 147 #[S l, .func (.func 145) #[] #[]] w fun e w' => e = .returned (.int .i64 (stop isD l 0)) ∧ w' = w := by
  go_enter Tryz.func147, Tryz.ntmps147
  go_wp2_with fail
  go_loop [5] (fun i => ∃ j : Nat, j ≤ l.length ∧ i = .int .i64 j ∧ Hid (stop isD l 0 = stop isD l j)) (fun i => l.length - (intOf i).toNat)
  case atStart => exact ⟨0, by omega, rfl, rfl⟩
  case round =>
    obtain ⟨j, hj, rfl, HB⟩ := hrel
    by_cases hlt : j < l.length
    · cases hd : isD l[j] with
      | true =>
        have HD : Hid _ := hd
        clear hd
        go_wp2_with fail
        refine (isDigit_any l[j] _).mono ?_
        rintro e w' ⟨rfl, rfl⟩
        rw [HD.out]
        go_wp2_with fail
        refine ⟨⟨j + 1, by omega, by go_num, ?_⟩, by simp [intOf]; omega⟩
        show _ = _; rw [HB.out]; exact stop_step isD l j hlt HD.out
      | false =>
        have HD : Hid _ := hd
        clear hd
        go_wp2_with fail
        refine (isDigit_any l[j] _).mono ?_
        rintro e w' ⟨rfl, rfl⟩
        rw [HD.out]
        go_wp2_with fail
        go_ret
        refine ⟨ret_int ?_, rfl⟩
        rw [HB.out, stop_no isD l j hlt HD.out]
    · go_wp2_with fail
      go_ret
      refine ⟨ret_int ?_, rfl⟩
      rw [HB.out, stop_end isD l j (by omega)]
set_option maxHeartbeats 1000000 in
theorem run_letters (l : List UInt8) (w : World) (hl : l.length ≤ 1000) : Calls Tryz.prog 147 #[S l, .func (.func 148) #[] #[]] w fun e w' => e = .returned (.int .i64 (stop isL l 0)) ∧ w' = w := by
  go_enter Tryz.func147, Tryz.ntmps147
  go_wp2_with fail
  go_loop [5] (fun i => ∃ j : Nat, j ≤ l.length ∧ i = .int .i64 j ∧ Hid (stop isL l 0 = stop isL l j)) (fun i => l.length - (intOf i).toNat)
  case atStart => exact ⟨0, by omega, rfl, rfl⟩
  case round =>
    obtain ⟨j, hj, rfl, HB⟩ := hrel
    by_cases hlt : j < l.length
    · cases hd : isL l[j] with
      | true =>
        have HD : Hid _ := hd
        clear hd
        go_wp2_with fail
        refine (isLetter_any l[j] _).mono ?_
        rintro e w' ⟨rfl, rfl⟩
        rw [HD.out]
        go_wp2_with fail
        refine ⟨⟨j + 1, by omega, by go_num, ?_⟩, by simp [intOf]; omega⟩
        show _ = _; rw [HB.out]; exact stop_step isL l j hlt HD.out
      | false =>
        have HD : Hid _ := hd
        clear hd
        go_wp2_with fail
        refine (isLetter_any l[j] _).mono ?_
        rintro e w' ⟨rfl, rfl⟩
        rw [HD.out]
        go_wp2_with fail
        go_ret
        refine ⟨ret_int ?_, rfl⟩
        rw [HB.out, stop_no isL l j hlt HD.out]
    · go_wp2_with fail
      go_ret
      refine ⟨ret_int ?_, rfl⟩
      rw [HB.out, stop_end isL l j (by omega)]
end Go.Proofs.YtfkdailfcmnjlaaGreatDoor

namespace Go.Proofs.YtfkdailfcmnjlaaGreatDoor
open Go Go.RowKit
set_option maxRecDepth 100000

/-- The kind that the program gives a word. -/
def kindOf (t : Tok) : Nat := if t.k = 110 then 1 else if t.k = 111 then 2 else if t.k = 101 then 0 else (idx spell t.text).toNat

theorem idx_first (l : List (List UInt8)) (s : List UInt8) (k : Nat) (hk : k < l.length) (h1 : ∀ q, q < k → l.getD q [] ≠ s) (h2 : l.getD k [] = s) : idx l s = k := by
  induction l generalizing k with
  | nil => simp at hk
  | cons x r ih =>
    unfold idx
    cases k with
    | zero => simp at h2; rw [h2]; simp
    | succ k =>
      have hx : (x == s) = false := by have := h1 0 (by omega); simpa using this
      have := ih k (by simpa using hk) (fun q hq => by have := h1 (q + 1) (by omega); simpa using this) (by simpa using h2)
      rw [hx, this]; simp; omega
theorem idx_mem {l : List (List UInt8)} {s : List UInt8} (h : 0 ≤ idx l s) : s ∈ l := by
  induction l with
  | nil => simp [idx] at h
  | cons x r ih =>
    unfold idx at h
    by_cases e : (x == s) = true
    · simp at e; simp [e]
    · rw [if_neg e] at h
      by_cases h2 : idx r s < 0
      · rw [if_pos h2] at h; omega
      · exact List.mem_cons_of_mem _ (ih (by omega))
theorem mem_idx {l : List (List UInt8)} {s : List UInt8} (h : s ∈ l) : 0 ≤ idx l s := by
  induction l with
  | nil => simp at h
  | cons x r ih =>
    unfold idx
    by_cases e : (x == s) = true
    · rw [if_pos e]; omega
    · rw [if_neg e]
      have : s ∈ r := by simp at h e; rcases h with h | h; exact absurd h.symm e; exact h
      have := ih this
      rw [if_neg (by omega)]; omega

/-- The keywords stand from the eleventh place on. -/
theorem kw_spell : spell.drop 11 = kOthers ++ kMembers ++ kFields := by decide
theorem isKw_iff (s : List UInt8) : isKw s = true ↔ s ∈ spell.drop 11 := by
  rw [kw_spell]
  unfold isKw
  simp only [Bool.or_eq_true, decide_eq_true_eq, List.mem_append]
  constructor
  · rintro ((h | h) | h)
    · exact .inl (.inr (idx_mem h))
    · exact .inr (idx_mem h)
    · exact .inl (.inl (idx_mem h))
  · rintro ((h | h) | h)
    · exact .inr (mem_idx h)
    · exact .inl (.inl (mem_idx h))
    · exact .inl (.inr (mem_idx h))

theorem letters_ne {s : List UInt8} (h0 : s ≠ []) (hl : ∀ c ∈ s, isL c = true) : ∀ q, q < 11 → spell.getD q [] ≠ s := by
  intro q hq e
  have hall : ∀ q, q < 11 → (spell.getD q []).all isL = true → spell.getD q [] = [] := by decide
  have := hall q hq (by rw [e]; exact List.all_eq_true.2 hl)
  rw [e] at this; exact h0 this

/-- What 'name' answers. -/
def nameV (s : List UInt8) : Value × Nat := if isKw s then (.agg #[.int .i64 (idx spell s), .int .i64 0, .int .i64 0, S []], s.length) else if s.length ≤ 8 then (.agg #[.int .i64 2, .int .i64 0, .int .i64 0, S s], s.length) else (.agg #[.int .i64 0, .int .i64 0, .int .i64 0, S []], 0)

set_option maxHeartbeats 2000000 in
theorem name_any (s : List UInt8) (w : World) (hS : Sp w) (hs : s.length ≤ 1000) (h0 : s ≠ []) (hl : ∀ c ∈ s, isL c = true) :
    Calls Tryz.prog 149 #[S s] w fun e w' => e = .returned (.tuple #[(nameV s).1, .int .i64 (nameV s).2]) ∧ Below w.heap.size w w' := by
  have hB := (Below.refl w.heap.size w).alloc (Nat.le_refl _) (.cells #[.int .i64 0, .int .i64 0, .int .i64 0, S []] 160)
  have hSp := hS.below hS.pos hB
  have HB : Hid _ := hB
  have HL : Hid _ := letters_ne h0 hl
  clear hB h0 hl hS
  go_enter Tryz.func149, Tryz.ntmps149
  go_wp2_with fail
  go_loop [4] (fun i => ∃ k : Nat, 11 ≤ k ∧ k ≤ 36 ∧ i = .int .i64 k ∧ Hid (∀ q, q < k → spell.getD q [] ≠ s)) (fun i => 36 - (intOf i).toNat)
  case atStart => exact ⟨11, by omega, by omega, rfl, HL.out⟩
  case round =>
    obtain ⟨k, hk1, hk2, rfl, HQ⟩ := hrel
    by_cases hlt : k < 36
    · cases he : (s == spell.getD k []) with
      | true =>
        have HE : Hid (spell.getD k [] = s) := by have : s = spell.getD k [] := by simpa using he
                                                  exact this.symm
        have hix : Hid (idx spell s = k) := idx_first spell s k (by exact hlt) HQ.out HE.out
        have hkw : Hid (isKw s = true) := (isKw_iff s).2 (by
          rw [← HE.out, List.getD_eq_getElem?_getD, List.getElem?_eq_getElem (by exact hlt)]
          exact List.mem_drop_iff_getElem.2 ⟨k - 11, by have : spell.length = 36 := rfl; omega, by simp only [Option.getD_some]; congr 1; omega⟩)
        clear he
        go_wp2_with fail
        refine (spelling_any k _ hSp hlt).mono ?_
        rintro e w' ⟨rfl, rfl⟩
        rw [HE.out]
        go_wp2_with fail
        exact bodyPost_ret (v := .tuple #[.agg #[.int .i64 k, .int .i64 0, .int .i64 0, S []], .int .i64 s.length]) (by simp [results, Tryz.results149, go_sem]) rfl ⟨by unfold nameV; rw [if_pos hkw.out, hix.out], (Below.refl _ _).alloc (Nat.le_refl _) _⟩
      | false =>
        have HE : Hid (spell.getD k [] ≠ s) := fun e => by rw [e] at he; simp at he
        have he' := he
        generalize hg : spell.getD k [] = sp at *
        have HG : Hid _ := hg
        clear he hg
        go_wp2_with fail
        refine (spelling_any k _ hSp hlt).mono ?_
        rintro e w' ⟨rfl, rfl⟩
        rw [HG.out]
        go_wp2_with fail
        refine ⟨⟨k + 1, by omega, by omega, by go_num, fun q hq => ?_⟩, by simp [intOf]; omega⟩
        by_cases e : q = k
        · subst e; rw [HG.out]; exact HE.out
        · exact HQ.out q (by omega)
    · have hkw : Hid (isKw s = false) := by
        show _ = _
        cases e : isKw s with
        | false => rfl
        | true =>
          obtain ⟨i, hi, hi2⟩ := List.mem_iff_getElem.1 ((isKw_iff s).1 e)
          have hsl : spell.length = 36 := rfl
          have hi' : i < 25 := by simp at hi; omega
          exact absurd (by rw [List.getElem_drop] at hi2; rw [List.getD_eq_getElem?_getD, List.getElem?_eq_getElem (by omega)]; exact hi2) (HQ.out (11 + i) (by omega))
      by_cases h8 : s.length ≤ 8
      · go_wp2_with fail
        exact bodyPost_ret (v := .tuple #[.agg #[.int .i64 2, .int .i64 0, .int .i64 0, S s], .int .i64 s.length]) (by simp [results, Tryz.results149, go_sem]) rfl ⟨by unfold nameV; rw [if_neg (by simp [hkw.out]), if_pos h8], (Below.refl _ _).alloc (Nat.le_refl _) _⟩
      · go_wp2_with fail
        exact bodyPost_ret (v := .tuple #[.agg #[.int .i64 0, .int .i64 0, .int .i64 0, S []], .int .i64 0]) (by simp [results, Tryz.results149, go_sem]) rfl ⟨by unfold nameV; rw [if_neg (by simp [hkw.out]), if_neg h8]; rfl, (Below.refl _ _).alloc (Nat.le_refl _) _⟩
end Go.Proofs.YtfkdailfcmnjlaaGreatDoor

namespace Go.Proofs.YtfkdailfcmnjlaaGreatDoor
open Go Go.RowKit
set_option maxRecDepth 100000

theorem take_prefix (s p : List UInt8) : (((ByteArray.mk s.toArray).extract 0 p.length).toList == p) = p.isPrefixOf s := by
  rw [cut_ex, ByteArray.toList_mk, Bool.eq_iff_iff, List.isPrefixOf_iff_prefix, List.prefix_iff_eq_take]
  simp only [cut, List.drop_zero, Nat.sub_zero, beq_iff_eq]
  exact eq_comm

set_option maxHeartbeats 1000000 in
theorem hasPrefix_any (s p : List UInt8) (w : World) (hs : s.length ≤ 1000) (hp : p.length ≤ 1000) : Calls Tryz.prog 209 #[S s, S p] w fun e w' => e = .returned (.bool (p.isPrefixOf s)) ∧ w' = w := by
  by_cases h : p.length ≤ s.length
  · go_enter Tryz.func209, Tryz.ntmps209
    go_wp2
    all_goals go_ret
    all_goals refine ⟨ret_bool ?_, rfl⟩
    all_goals exact take_prefix s p
  · have HE : Hid (p.isPrefixOf s = false) := by
      show _ = _
      rw [Bool.eq_false_iff]; intro e
      rw [List.isPrefixOf_iff_prefix] at e
      exact h e.length_le
    rw [HE.out]
    go_enter Tryz.func209, Tryz.ntmps209
    go_wp2
    all_goals go_ret
    all_goals refine ⟨ret_bool ?_, rfl⟩
    all_goals rfl

/-- The first kind of a sign, from one on, that a text begins with. -/
def signK (s : List UInt8) : Option Nat := (List.range' 3 8).find? (fun k => (spell.getD k []).isPrefixOf s)
theorem signK_yes {s : List UInt8} {k : Nat} (h3 : 3 ≤ k) (h11 : k < 11) (h1 : ∀ q, 3 ≤ q → q < k → (spell.getD q []).isPrefixOf s = false) (h2 : (spell.getD k []).isPrefixOf s = true) : signK s = some k := by
  unfold signK
  rw [List.find?_range'_eq_some]
  refine ⟨h2, by simp; omega, fun j hj hk => ?_⟩
  rw [h1 j hj hk]; rfl
theorem signK_no {s : List UInt8} (h1 : ∀ q, 3 ≤ q → q < 11 → (spell.getD q []).isPrefixOf s = false) : signK s = none := by
  unfold signK
  rw [List.find?_eq_none]
  intro x hx
  rw [List.mem_range'_1] at hx
  rw [h1 x (by omega) (by omega)]; simp
/-- What 'sign' answers. -/
def signV (s : List UInt8) : Value × Nat := match signK s with
  | some k => (.agg #[.int .i64 k, .int .i64 0, .int .i64 0, S []], (spell.getD k []).length)
  | none => (.agg #[.int .i64 0, .int .i64 0, .int .i64 0, S []], 0)
theorem spell_short : ∀ k, k < 36 → (spell.getD k []).length ≤ 1000 := by decide

set_option maxHeartbeats 2000000 in
theorem sign_any (s : List UInt8) (w : World) (hS : Sp w) (hs : s.length ≤ 1000) :
    Calls Tryz.prog 150 #[S s] w fun e w' => e = .returned (.tuple #[(signV s).1, .int .i64 (signV s).2]) ∧ Below w.heap.size w w' := by
  have hB := (Below.refl w.heap.size w).alloc (Nat.le_refl _) (.cells #[.int .i64 0, .int .i64 0, .int .i64 0, S []] 160)
  have hSp := hS.below hS.pos hB
  have HB : Hid _ := hB
  clear hB hS
  go_enter Tryz.func150, Tryz.ntmps150
  go_wp2_with fail
  go_loop [4] (fun i => ∃ k : Nat, 3 ≤ k ∧ k ≤ 11 ∧ i = .int .i64 k ∧ Hid (∀ q, 3 ≤ q → q < k → (spell.getD q []).isPrefixOf s = false)) (fun i => 11 - (intOf i).toNat)
  case atStart => exact ⟨3, by omega, by omega, rfl, fun q h1 h2 => by omega⟩
  case round =>
    obtain ⟨k, hk1, hk2, rfl, HQ⟩ := hrel
    by_cases hlt : k < 11
    · have hlen := spell_short k (by omega)
      cases he : (spell.getD k []).isPrefixOf s with
      | true =>
        have HV : Hid (signV s = (.agg #[.int .i64 k, .int .i64 0, .int .i64 0, S []], (spell.getD k []).length)) := by
          show _ = _; unfold signV; rw [signK_yes hk1 hlt HQ.out he]
        have HE : Hid _ := he
        clear he
        generalize hg : spell.getD k [] = sp at *
        have HG : Hid _ := hg
        clear hg
        go_wp2_with fail
        refine (spelling_any k _ hSp (by omega)).mono ?_
        rintro e w' ⟨rfl, rfl⟩
        rw [HG.out]
        go_wp2_with fail
        refine (hasPrefix_any s sp _ hs hlen).mono ?_
        rintro e w' ⟨rfl, rfl⟩
        rw [HE.out]
        go_wp2_with fail
        refine (spelling_any k _ hSp (by omega)).mono ?_
        rintro e w' ⟨rfl, rfl⟩
        rw [HG.out]
        go_wp2_with fail
        exact bodyPost_ret (v := .tuple #[.agg #[.int .i64 k, .int .i64 0, .int .i64 0, S []], .int .i64 sp.length]) (by simp [results, Tryz.results150, go_sem]) rfl ⟨by rw [HV.out], (Below.refl _ _).alloc (Nat.le_refl _) _⟩
      | false =>
        have HE : Hid _ := he
        have HE2 : Hid _ := he
        clear he
        generalize hg : spell.getD k [] = sp at hlen HE
        have HG : Hid _ := hg
        clear hg
        go_wp2_with fail
        refine (spelling_any k _ hSp (by omega)).mono ?_
        rintro e w' ⟨rfl, rfl⟩
        rw [HG.out]
        go_wp2_with fail
        refine (hasPrefix_any s sp _ hs hlen).mono ?_
        rintro e w' ⟨rfl, rfl⟩
        rw [HE.out]
        go_wp2_with fail
        refine ⟨⟨k + 1, by omega, by omega, by go_num, fun q h3 hq => ?_⟩, by simp [intOf]; omega⟩
        by_cases e : q = k
        · rw [e]; exact HE2.out
        · exact HQ.out q h3 (by omega)
    · have HV : Hid (signV s = (.agg #[.int .i64 0, .int .i64 0, .int .i64 0, S []], 0)) := by
        show _ = _; unfold signV; rw [signK_no (fun q h1 h2 => HQ.out q h1 (by omega))]
      go_wp2_with fail
      exact bodyPost_ret (v := .tuple #[.agg #[.int .i64 0, .int .i64 0, .int .i64 0, S []], .int .i64 0]) (by simp [results, Tryz.results150, go_sem]) rfl ⟨by rw [HV.out]; rfl, (Below.refl _ _).alloc (Nat.le_refl _) _⟩
end Go.Proofs.YtfkdailfcmnjlaaGreatDoor

namespace Go.Proofs.YtfkdailfcmnjlaaGreatDoor
open Go Go.RowKit
set_option maxRecDepth 100000
attribute [local go_sem ↓] Go.wp_at_zero Go.wp_at_succ

set_option maxHeartbeats 1000000 in
theorem ptruth_any (b : Bool) (w : World) : Calls Tryz.prog 82 #[.bool b] w fun e w' => e = .returned (.int .i64 (truthI b)) ∧ w' = w := by
  cases b
  all_goals
    go_enter Tryz.func82, Tryz.ntmps82
    go_wp2_with fail
    go_ret
    exact ⟨rfl, rfl⟩
set_option maxHeartbeats 1000000 in
theorem pmember_any (n : Int) (w : World) : Calls Tryz.prog 81 #[.int .i64 n] w fun e w' => e = .returned (.int .i64 (knownI n)) ∧ w' = w := by
  by_cases h0 : n < 0
  · have HC : Hid (knownI n = 0) := by show _ = _; unfold knownI; rw [if_pos (.inl h0)]
    go_enter Tryz.func81, Tryz.ntmps81
    go_wp2_with fail
    go_ret
    exact ⟨by rw [HC.out]; rfl, rfl⟩
  · by_cases h4 : 4 < n
    · have HC : Hid (knownI n = 0) := by show _ = _; unfold knownI; rw [if_pos (.inr h4)]
      go_enter Tryz.func81, Tryz.ntmps81
      go_wp2_with fail
      go_ret
      exact ⟨by rw [HC.out]; rfl, rfl⟩
    · have HC : Hid (knownI n = n) := by show _ = _; unfold knownI; rw [if_neg (by omega)]
      go_enter Tryz.func81, Tryz.ntmps81
      go_wp2_with fail
      go_ret
      exact ⟨by rw [HC.out]; rfl, rfl⟩

set_option maxHeartbeats 1000000 in
theorem pequal_any (a b : Int) (w : World) : Calls Tryz.prog 166 #[.int .i64 a, .int .i64 b] w fun e w' => e = .returned (.int .i64 (truthI (a == b))) ∧ w' = w := by
  have W1 := fun w => ptruth_any (a == b) w
  generalize hv : truthI (a == b) = r at *
  clear hv
  go_enter Tryz.func166, Tryz.ntmps166
  go_wp2_with fail
  refine (W1 _).mono ?_
  rintro e w1 ⟨rfl, rfl⟩
  clear W1
  go_wp2_with fail
  go_ret
  exact ⟨rfl, rfl⟩

set_option maxHeartbeats 1000000 in
theorem pless_any (a b : Int) (w : World) : Calls Tryz.prog 167 #[.int .i64 a, .int .i64 b] w fun e w' => e = .returned (.int .i64 (truthI (decide (a < b)))) ∧ w' = w := by
  have W1 := fun w => ptruth_any (decide (a < b)) w
  generalize hv : truthI (decide (a < b)) = r at *
  clear hv
  go_enter Tryz.func167, Tryz.ntmps167
  go_wp2_with fail
  refine (W1 _).mono ?_
  rintro e w1 ⟨rfl, rfl⟩
  clear W1
  go_wp2_with fail
  go_ret
  exact ⟨rfl, rfl⟩

set_option maxHeartbeats 1000000 in
theorem patmost_any (a b : Int) (w : World) : Calls Tryz.prog 168 #[.int .i64 a, .int .i64 b] w fun e w' => e = .returned (.int .i64 (truthI (decide (a ≤ b)))) ∧ w' = w := by
  have W1 := fun w => ptruth_any (decide (a ≤ b)) w
  generalize hv : truthI (decide (a ≤ b)) = r at *
  clear hv
  go_enter Tryz.func168, Tryz.ntmps168
  go_wp2_with fail
  refine (W1 _).mono ?_
  rintro e w1 ⟨rfl, rfl⟩
  clear W1
  go_wp2_with fail
  go_ret
  exact ⟨rfl, rfl⟩

set_option maxHeartbeats 1000000 in
theorem pand_any (a b : Int) (w : World) : Calls Tryz.prog 169 #[.int .i64 a, .int .i64 b] w fun e w' => e = .returned (.int .i64 (truthI (a == 1 && b == 1))) ∧ w' = w := by
  have W1 := fun w b => ptruth_any b w
  cases hx : (a == 1)
  all_goals
    cases hy : (b == 1)
  all_goals
    go_enter Tryz.func169, Tryz.ntmps169
    go_wp2_with fail
    refine (W1 _ _).mono ?_
    rintro e w1 ⟨rfl, rfl⟩
    clear W1
    go_wp2_with fail
    go_ret
    exact ⟨rfl, rfl⟩

set_option maxHeartbeats 1000000 in
theorem por_any (a b : Int) (w : World) : Calls Tryz.prog 170 #[.int .i64 a, .int .i64 b] w fun e w' => e = .returned (.int .i64 (truthI (a == 1 || b == 1))) ∧ w' = w := by
  have W1 := fun w b => ptruth_any b w
  cases hx : (a == 1)
  all_goals
    cases hy : (b == 1)
  all_goals
    go_enter Tryz.func170, Tryz.ntmps170
    go_wp2_with fail
    refine (W1 _ _).mono ?_
    rintro e w1 ⟨rfl, rfl⟩
    clear W1
    go_wp2_with fail
    go_ret
    exact ⟨rfl, rfl⟩

set_option maxHeartbeats 1000000 in
theorem pnot_any {a : Int} (ha : a = 0 ∨ a = 1) (w : World) : Calls Tryz.prog 125 #[.int .i64 a] w fun e w' => e = .returned (.int .i64 (1 - a)) ∧ w' = w := by
  have W1 := fun w b => ptruth_any b w
  rcases ha with rfl | rfl
  all_goals
    go_enter Tryz.func125, Tryz.ntmps125
    go_wp2_with fail
    refine (W1 _ _).mono ?_
    rintro e w1 ⟨rfl, rfl⟩
    clear W1
    go_wp2_with fail
    go_ret
    exact ⟨rfl, rfl⟩
end Go.Proofs.YtfkdailfcmnjlaaGreatDoor

namespace Go.Proofs.YtfkdailfcmnjlaaGreatDoor
open Go Go.RowKit
set_option maxRecDepth 100000
attribute [local go_sem ↓] Go.wp_at_zero Go.wp_at_succ

theorem wrap_over {x : Int} (h : 9223372036854775807 < x) (h2 : x ≤ 18446744073709551615) : IntKind.i64.wrap x = x - 18446744073709551616 := by
  simp [IntKind.wrap, IntKind.signed, IntKind.bits]
  omega
theorem wrap_under {x : Int} (h : x < -9223372036854775808) (h2 : -18446744073709551616 ≤ x) : IntKind.i64.wrap x = x + 18446744073709551616 := by
  simp [IntKind.wrap, IntKind.signed, IntKind.bits]
  omega

set_option maxHeartbeats 2000000 in
theorem padd_any {a b : Int} (ha : In64 a) (hb : In64 b) (w : World) : Calls Tryz.prog 164 #[.int .i64 a, .int .i64 b] w fun e w' => e = .returned (.int .i64 (clampI (a + b))) ∧ w' = w := by
  unfold In64 at ha hb
  by_cases h1 : 9223372036854775807 < a + b
  · have HC : Hid (clampI (a + b) = 9223372036854775807) := by show _ = _; unfold clampI; rw [if_pos h1]
    have w3 := wrap_over h1 (by omega)
    have a1 : 0 ≤ a := by omega
    have a2 : 0 ≤ b := by omega
    have a3 : a + b - 18446744073709551616 < 0 := by omega
    go_enter Tryz.func164, Tryz.ntmps164
    go_wp2_with fail
    go_ret
    exact ⟨by rw [HC.out]; rfl, rfl⟩
  · by_cases h2 : a + b < -9223372036854775808
    · have HC : Hid (clampI (a + b) = -9223372036854775808) := by show _ = _; unfold clampI; rw [if_neg h1, if_pos h2]
      have w3 := wrap_under h2 (by omega)
      have a1 : a < 0 := by omega
      have a2 : b < 0 := by omega
      have a3 : 0 ≤ a + b + 18446744073709551616 := by omega
      go_enter Tryz.func164, Tryz.ntmps164
      go_wp2_with fail
      go_ret
      exact ⟨by rw [HC.out]; rfl, rfl⟩
    · have HC : Hid (clampI (a + b) = a + b) := by show _ = _; unfold clampI; rw [if_neg h1, if_neg h2]
      have w3 : IntKind.i64.wrap (a + b) = a + b := wrap64 (by unfold In64; omega)
      by_cases a1 : 0 ≤ a
      · by_cases a2 : 0 ≤ b
        · have _h := 0
          go_enter Tryz.func164, Tryz.ntmps164
          go_wp2_with fail
          go_ret
          exact ⟨by rw [HC.out]; rfl, rfl⟩
        · have _h := 0
          go_enter Tryz.func164, Tryz.ntmps164
          go_wp2_with fail
          go_ret
          exact ⟨by rw [HC.out]; rfl, rfl⟩
      · by_cases a2 : 0 ≤ b
        · have _h := 0
          go_enter Tryz.func164, Tryz.ntmps164
          go_wp2_with fail
          go_ret
          exact ⟨by rw [HC.out]; rfl, rfl⟩
        · have _h := 0
          go_enter Tryz.func164, Tryz.ntmps164
          go_wp2_with fail
          go_ret
          exact ⟨by rw [HC.out]; rfl, rfl⟩

set_option maxHeartbeats 2000000 in
theorem psub_any {a b : Int} (ha : In64 a) (hb : In64 b) (w : World) : Calls Tryz.prog 165 #[.int .i64 a, .int .i64 b] w fun e w' => e = .returned (.int .i64 (clampI (a - b))) ∧ w' = w := by
  unfold In64 at ha hb
  by_cases h1 : 9223372036854775807 < a - b
  · have HC : Hid (clampI (a - b) = 9223372036854775807) := by show _ = _; unfold clampI; rw [if_pos h1]
    have w3 := wrap_over h1 (by omega)
    have a1 : 0 ≤ a := by omega
    have a2 : b < 0 := by omega
    have a3 : a - b - 18446744073709551616 < 0 := by omega
    go_enter Tryz.func165, Tryz.ntmps165
    go_wp2_with fail
    go_ret
    exact ⟨by rw [HC.out]; rfl, rfl⟩
  · by_cases h2 : a - b < -9223372036854775808
    · have HC : Hid (clampI (a - b) = -9223372036854775808) := by show _ = _; unfold clampI; rw [if_neg h1, if_pos h2]
      have w3 := wrap_under h2 (by omega)
      have a1 : a < 0 := by omega
      have a2 : 0 ≤ b := by omega
      have a3 : 0 ≤ a - b + 18446744073709551616 := by omega
      go_enter Tryz.func165, Tryz.ntmps165
      go_wp2_with fail
      go_ret
      exact ⟨by rw [HC.out]; rfl, rfl⟩
    · have HC : Hid (clampI (a - b) = a - b) := by show _ = _; unfold clampI; rw [if_neg h1, if_neg h2]
      have w3 : IntKind.i64.wrap (a - b) = a - b := wrap64 (by unfold In64; omega)
      by_cases a1 : 0 ≤ a
      · by_cases a2 : 0 ≤ b
        · have _h := 0
          go_enter Tryz.func165, Tryz.ntmps165
          go_wp2_with fail
          go_ret
          exact ⟨by rw [HC.out]; rfl, rfl⟩
        · have _h := 0
          go_enter Tryz.func165, Tryz.ntmps165
          go_wp2_with fail
          go_ret
          exact ⟨by rw [HC.out]; rfl, rfl⟩
      · by_cases a2 : 0 ≤ b
        · have _h := 0
          go_enter Tryz.func165, Tryz.ntmps165
          go_wp2_with fail
          go_ret
          exact ⟨by rw [HC.out]; rfl, rfl⟩
        · have _h := 0
          go_enter Tryz.func165, Tryz.ntmps165
          go_wp2_with fail
          go_ret
          exact ⟨by rw [HC.out]; rfl, rfl⟩
end Go.Proofs.YtfkdailfcmnjlaaGreatDoor

namespace Go.Proofs.YtfkdailfcmnjlaaGreatDoor
open Go Go.RowKit
set_option maxRecDepth 100000
attribute [local go_sem ↓] Go.wp_at_zero Go.wp_at_succ

theorem conv_one (c : Nat) (hc : c < 256) (w : World) : (convert 155 9 (.slice (some ⟨w.heap.size, 0, none⟩) 1 1)).run Tryz.prog (w.alloc (.cells #[.int .u8 (c : Int)] 5)) = .ok (S [UInt8.ofNat c]) (w.alloc (.cells #[.int .u8 (c : Int)] 5)) := by
  refine run_convert_bytes_back (w.alloc (.cells #[.int .u8 (c : Int)] 5)) 155 9 5 ⟨w.heap.size, 0, none⟩ 1 [UInt8.ofNat c] Tryz.underlying155 Tryz.underlying5 Tryz.underlying9 fun j hj => ?_
  have hj0 : j = 0 := by simp at hj; omega
  subst hj0
  have e : (UInt8.ofNat c).toNat = c := by rw [UInt8.toNat_ofNat']; omega
  simp [Addr.add, e]
theorem conv_cell (c : Nat) (hc : c < 256) (W : World) (g : Nat) (h : W.cell? ⟨g, 0, none⟩ = some (.int .u8 (c : Int))) : (convert 155 9 (.slice (some ⟨g, 0, none⟩) 1 1)).run Tryz.prog W = .ok (S [UInt8.ofNat c]) W := by
  refine run_convert_bytes_back W 155 9 5 ⟨g, 0, none⟩ 1 [UInt8.ofNat c] Tryz.underlying155 Tryz.underlying5 Tryz.underlying9 fun j hj => ?_
  have hj0 : j = 0 := by simp at hj; omega
  subst hj0
  have e : (UInt8.ofNat c).toNat = c := by rw [UInt8.toNat_ofNat']; omega
  simp [Addr.add, e, h]
theorem rba_cat (a b : List UInt8) : (ByteArray.mk a.toArray ++ ByteArray.mk b.toArray) = ByteArray.mk (a ++ b).toArray := by
  apply ByteArray.ext
  simp
theorem wrap_small {x : Int} (h0 : 0 ≤ x) (h1 : x ≤ 9223372036854775807) : IntKind.i64.wrap x = x := by
  simp [IntKind.wrap, IntKind.signed, IntKind.bits]
  omega
theorem wrap_byte {x : Int} (h0 : 0 ≤ x) (h1 : x ≤ 255) : IntKind.u8.wrap x = x := by
  simp [IntKind.wrap, IntKind.signed, IntKind.bits]
  omega
set_option maxHeartbeats 1000000 in
theorem tens_any (f : Nat) : ∀ (n : Nat) (w : World), n < 10 ^ f → n ≤ 9223372036854775807 → 0 < f → f ≤ 30 → Calls Tryz.prog 69 #[.int .i64 n] w fun e w' => e = .returned (S (tensF f n)) ∧ Below w.heap.size w w' := by
  induction f with
  | zero => intro n w _ _ h; omega
  | succ f ih =>
    intro n w hn hm _ hf
    by_cases h : n < 10
    · have HE : Hid (tensF (f + 1) n = [UInt8.ofNat (48 + n)]) := by show _ = _; rw [tensF, if_pos h]
      generalize tensF (f + 1) n = r at *
      have hcv := conv_one (48 + n) (by omega) w
      have hb := (Below.refl w.heap.size w).alloc (Nat.le_refl _) (.cells #[.int .u8 ((48 + n : Nat) : Int)] 5)
      rw [show ((48 + n : Nat) : Int) = 48 + (n : Int) from by omega] at hcv hb
      clear ih hn
      generalize UInt8.ofNat (48 + n) = d at *
      go_enter Tryz.func69, Tryz.ntmps69
      go_wp2_with fail
      go_ret
      exact ⟨by rw [HE.out]; rfl, hb⟩
    · have HE : Hid (tensF (f + 1) n = tensF f (n / 10) ++ [UInt8.ofNat (48 + n % 10)]) := by show _ = _; rw [tensF, if_neg h]
      generalize tensF (f + 1) n = r at *
      have hf0 : 0 < f := by
        rcases Nat.eq_zero_or_pos f with rfl | h0
        · simp at hn; omega
        · exact h0
      rw [Nat.pow_succ] at hn
      have HI := fun w => ih (n / 10) w (by omega) (by omega) hf0 (by omega)
      have hl := tensF_len f (n / 10)
      have hcv : ∀ (W : World) (g : Nat), W.cell? ⟨g, 0, none⟩ = some (.int .u8 (48 + ((n % 10 : Nat) : Int))) → (convert 155 9 (.slice (some ⟨g, 0, none⟩) 1 1)).run Tryz.prog W = .ok (S [UInt8.ofNat (48 + n % 10)]) W := fun W g hc => by
        rw [show 48 + ((n % 10 : Nat) : Int) = ((48 + n % 10 : Nat) : Int) from by omega] at hc
        exact conv_cell (48 + n % 10) (by omega) W g hc
      have hq : IntKind.i64.wrap ((n : Int) / 10) = ((n / 10 : Nat) : Int) := by
        rw [show (n : Int) / 10 = ((n / 10 : Nat) : Int) from by omega]
        exact wrap_small (by omega) (by omega)
      have ht : (n : Int).tmod 10 = ((n % 10 : Nat) : Int) := by
        rw [Int.tmod_eq_emod_of_nonneg (by omega)]; omega
      have hm9 : n % 10 < 10 := by omega
      have hw1 : IntKind.i64.wrap (48 + ((n % 10 : Nat) : Int)) = 48 + ((n % 10 : Nat) : Int) := wrap_small (by omega) (by omega)
      have hw2 : IntKind.u8.wrap (48 + ((n % 10 : Nat) : Int)) = 48 + ((n % 10 : Nat) : Int) := wrap_byte (by omega) (by omega)
      generalize UInt8.ofNat (48 + n % 10) = d at *
      generalize n % 10 = m at *
      generalize tensF f (n / 10) = t at *
      generalize n / 10 = q at *
      clear ih hn
      have hs1 : ¬ 9223372036854775807 < t.length + 1 := by omega
      go_enter Tryz.func69, Tryz.ntmps69
      go_wp2_with fail
      go_region_with ((go_at_call 69; refine (HI _).mono ?_; rintro e w1 ⟨rfl, hb⟩; try (have hc1 : w1.cell? ⟨w.heap.size, 0, none⟩ = some (.int .u8 (48 + (m : Int))) := by rw [hb.cell (by simp)]; simp)))
      all_goals go_wp2_with fail
      all_goals go_ret
      all_goals refine ⟨by rw [HE.out]; exact congrArg (fun s => Ending.returned (Value.string s)) (rba_cat t [d]), ?_⟩
      all_goals have hb0 : Below w.heap.size w (w.alloc (.cells #[.int .u8 (48 + (m : Int))] 5)) := (Below.refl _ _).alloc (Nat.le_refl _) _
      all_goals first
        | exact hb0.drew.trans (hb.mono (by simp))
        | exact ((Below.refl _ _).drew.trans hb).alloc (by have := hb.size; simpa using this) _
end Go.Proofs.YtfkdailfcmnjlaaGreatDoor

namespace Go.Proofs.YtfkdailfcmnjlaaGreatDoor
open Go Go.RowKit
set_option maxRecDepth 100000
attribute [local go_sem ↓] Go.wp_at_zero Go.wp_at_succ

theorem info_rstr : (Tryz.prog.info? 9).map (fun i => (i.zero, i.size, i.bytes)) = some (some (.string ⟨#[]⟩), 1, 16) := by kernel_rfl

theorem rstr_row {w : World} {base : Nat} {v : Value} {l : List Nat} {F : Nat → List UInt8} (h : w.ownsRow base 9 1 v l.length (l.map fun i => S (F i))) : ∃ a cap, v = .slice a l.length cap ∧ ∀ j, j < l.length → ∃ g, a = some ⟨g, 0, none⟩ ∧ w.cell? ⟨g, j, none⟩ = some (S (F (l.getD j 0))) := by
  obtain ⟨hl, h⟩ := h
  rcases h with ⟨rfl, h0⟩ | ⟨g, cap, cur, rfl, hb, hg, h1, h2, h3, h4⟩
  · exact ⟨none, 0, by rw [h0], fun k hk => by omega⟩
  · refine ⟨_, cap, rfl, fun k hk => ⟨g, rfl, ?_⟩⟩
    rw [cell_of_row w g k _ _ _ hg]
    have e1 : cur[k]? = (cur.toList.take (l.length * 1))[k]? := by
      rw [List.getElem?_take_of_lt (by omega)]; simp
    rw [e1, h4]
    simp [hk, List.getD_eq_getElem?_getD]
set_option maxHeartbeats 8000000 in
theorem rplain_step {B g cap : Nat} {a : Option Addr} {n c : Nat} {ps : List PartS} {L : List Pt} (f : Nat) (F : Nat → List UInt8) (hF : ∀ j, (F j).length ≤ 100000000)
    (k : Nat) (w : World) (h : PartsIn B g cap ps w) (hk : k < ps.length) (htx : (ps.getD k noPart).tok.text.length ≤ 1000) (hl3 : (ps.getD k noPart).subs.length ≤ 3) (hsm : ∀ j ∈ (ps.getD k noPart).subs, j ≤ 5000) (hnn : (ps.getD k noPart).tok.k = 110 → (ps.getD k noPart).n = decVal (ps.getD k noPart).tok.text ∧ decVal (ps.getD k noPart).tok.text ≤ 9223372036854775807)
    (ih : ∀ j ∈ (ps.getD k noPart).subs, ∀ (w1 : World), PartsIn B g cap ps w1 → Calls Tryz.prog 35 #[.agg #[.slice a n c, .slice (some ⟨g, 0, none⟩) ps.length cap], .int .i64 j] w1 fun e w' => e = .returned (S (F j)) ∧ Below w1.heap.size w1 w') :
    Calls Tryz.prog 35 #[.agg #[.slice a n c, .slice (some ⟨g, 0, none⟩) ps.length cap], .int .i64 k] w fun e w' => e = .returned (S (if (ps.getD k noPart).tok.k = 110 then tensL (decVal (ps.getD k noPart).tok.text) else overL (ps.getD k noPart).tok.text ((ps.getD k noPart).subs.map F))) ∧ Below w.heap.size w w' := by
  obtain ⟨i0, hi, hz0, hz1, hz2⟩ := info_parts info_rstr
  obtain ⟨k0, k1, k2, k3, k4⟩ := h.cells k hk
  have hpf := h.few
  have hone : (ps.getD k noPart).sv.oneCell' = true := by
    have hm : ps.getD k noPart ∈ ps := by rw [List.getD_eq_getElem?_getD, List.getElem?_eq_getElem hk]; exact List.getElem_mem hk
    exact (h.subs _ hm).one
  have b1 : (0 : Int) ≤ (k : Int) := by omega
  have b2 : (k : Int) < (ps.length : Int) := by omega
  have lg := World.block_lt_of_cell? w _ k0
  simp only at lg
  have hsub := h.sub k hk
  have IH : Hid _ := ih
  have HN : Hid _ := hnn
  have HSM : Hid _ := hsm
  have HH : Hid _ := h
  clear ih hnn hsm h
  generalize ps.getD k noPart = pp at *
  obtain ⟨sa, hsv, hsc⟩ : ∃ sa, pp.sv = .slice sa pp.subs.length pp.subs.length ∧ ∀ j, j < pp.subs.length → ∃ sb, sa = some ⟨sb, 0, none⟩ ∧ w.cell? ⟨sb, j, none⟩ = some (.int .i64 (pp.subs.getD j 0)) := by
    rcases hsub with ⟨e1, e2⟩ | ⟨sb, e2, hcs⟩
    · exact ⟨none, by rw [e1, e2]; rfl, fun j hj => by rw [e1] at hj; simp at hj⟩
    · refine ⟨some ⟨sb, 0, none⟩, e2, fun j hj => ⟨sb, rfl, ?_⟩⟩
      exact hcs j hj
  rw [hsv] at k3 hone
  have HSC : Hid _ := hsc
  clear hsub hsc hsv
  generalize pp.subs = sl at *
  generalize pp.tok.k = tk at *
  generalize pp.tok.text = tx at *
  generalize pp.tok.pl = tp at *
  generalize pp.n = tn at *
  generalize hr : (if tk = 110 then tensL (decVal tx) else overL tx (sl.map F)) = r
  have HR : Hid _ := hr
  clear hr
  go_enter Tryz.func35, Tryz.ntmps35
  have hB0 : Below w.heap.size w ((w.alloc (.cells #[.slice a n c, .slice (some ⟨g, 0, none⟩) ps.length cap] 90)).alloc (.cells #[.int .u8 tk, S tx, .int .i64 tp, .slice sa sl.length sl.length, .int .i64 tn] 169)) := ((Below.refl _ _).alloc (Nat.le_refl _) _).alloc (by simp) _
  have hX0 : ((w.alloc (.cells #[.slice a n c, .slice (some ⟨g, 0, none⟩) ps.length cap] 90)).alloc (.cells #[.int .u8 tk, S tx, .int .i64 tp, .slice sa sl.length sl.length, .int .i64 tn] 169)).heap[w.heap.size]? = some (.cells #[.slice a n c, .slice (some ⟨g, 0, none⟩) ps.length cap] 90 (0, 0)) := by rw [Below.heap_alloc _ _ _ (by simp)]; exact heap_alloc_new w _
  have hP0 : ((w.alloc (.cells #[.slice a n c, .slice (some ⟨g, 0, none⟩) ps.length cap] 90)).alloc (.cells #[.int .u8 tk, S tx, .int .i64 tp, .slice sa sl.length sl.length, .int .i64 tn] 169)).heap[w.heap.size + 1]? = some (.cells #[.int .u8 tk, S tx, .int .i64 tp, .slice sa sl.length sl.length, .int .i64 tn] 169 (0, 0)) := by have e := heap_alloc_new (w.alloc (.cells #[.slice a n c, .slice (some ⟨g, 0, none⟩) ps.length cap] 90)) (.cells #[.int .u8 tk, S tx, .int .i64 tp, .slice sa sl.length sl.length, .int .i64 tn] 169); rw [World.size_alloc] at e; exact e
  have H0 : Hid _ := And.intro hB0 (And.intro hX0 hP0)
  clear hB0 hX0 hP0
  go_wp2_with fail
  clear k0 k1 k2 k3 k4
  go_loopw [6, 7] (fun sv jv wr => ∃ j, j ≤ sl.length ∧ jv = .int .i64 j ∧ wr.ownsRow w.heap.size 9 1 sv j ((sl.take j).map fun i => S (F i)) ∧ Below w.heap.size w wr ∧ wr.heap[w.heap.size]? = some (.cells #[.slice a n c, .slice (some ⟨g, 0, none⟩) ps.length cap] 90 (0, 0)) ∧ wr.heap[w.heap.size + 1]? = some (.cells #[.int .u8 tk, S tx, .int .i64 tp, .slice sa sl.length sl.length, .int .i64 tn] 169 (0, 0))) (fun _ jv _ => sl.length - (intOf jv).toNat)
  case atStart => exact ⟨0, Nat.zero_le _, rfl, World.ownsRow_nil _ _ _ _, H0.out.1, H0.out.2.1, H0.out.2.2⟩
  case round =>
    obtain ⟨j, hj, rfl, hown, hbw, hpw, hxw⟩ := hrel
    have p0 := cell_of_row wr w.heap.size 0 _ _ _ hpw
    have p1 := cell_of_row wr w.heap.size 1 _ _ _ hpw
    have x0 := cell_of_row wr (w.heap.size + 1) 0 _ _ _ hxw
    have x1 := cell_of_row wr (w.heap.size + 1) 1 _ _ _ hxw
    have x3 := cell_of_row wr (w.heap.size + 1) 3 _ _ _ hxw
    have x4 := cell_of_row wr (w.heap.size + 1) 4 _ _ _ hxw
    simp only [List.getElem?_toArray, List.getElem?_cons_zero, List.getElem?_cons_succ] at p0 p1 x0 x1 x3 x4
    by_cases hlt : j < sl.length
    · obtain ⟨sb, rfl, hsb⟩ := HSC.out j hlt
      have hsb' : wr.cell? ⟨sb, j, none⟩ = some (.int .i64 (sl.getD j 0)) := by rw [hbw.cell (p := ⟨sb, j, none⟩) (World.block_lt_of_cell? w _ hsb)]; exact hsb
      have hmem : sl.getD j 0 ∈ sl := by rw [List.getD_eq_getElem?_getD, List.getElem?_eq_getElem hlt]; exact List.getElem_mem hlt
      have W1 := IH.out (sl.getD j 0) hmem wr.drew (HH.out.below hbw.drew)
      have hjm := HSM.out _ hmem
      have hFl := hF (sl.getD j 0)
      have keepF : ∀ w', Below wr.heap.size wr.drew w' → (w'.cell? ⟨w.heap.size, 0, none⟩ = some (.slice a n c) ∧ w'.cell? ⟨w.heap.size, 1, none⟩ = some (.slice (some ⟨g, 0, none⟩) ps.length cap) ∧ w'.cell? ⟨w.heap.size + 1, 3, none⟩ = some (.slice (some ⟨sb, 0, none⟩) sl.length sl.length) ∧ w'.cell? ⟨sb, j, none⟩ = some (.int .i64 (sl.getD j 0))) := fun w' h => by
        rw [h.cell (p := ⟨w.heap.size, 0, none⟩) (lt_of_get hpw), h.cell (p := ⟨w.heap.size, 1, none⟩) (lt_of_get hpw), h.cell (p := ⟨w.heap.size + 1, 3, none⟩) (lt_of_get hxw), h.cell (p := ⟨sb, j, none⟩) (World.block_lt_of_cell? wr _ hsb')]
        exact ⟨p0, p1, x3, hsb'⟩
      have KF : Hid _ := keepF
      have HTK : Hid _ := List.take_succ_eq_append_getElem hlt
      have HGJ : Hid (sl[j] = sl.getD j 0) := by show _ = _; rw [List.getD_eq_getElem?_getD, List.getElem?_eq_getElem hlt]; rfl
      clear keepF hmem hsb
      generalize hFj : F (sl.getD j 0) = fj at *
      have HFJ : Hid _ := hFj
      clear hFj
      generalize hij : sl.getD j 0 = ij at *
      clear hij
      go_wp2_with fail
      go_region_held3 (fun w' => w'.cell? ⟨w.heap.size, 0, none⟩ = some (.slice a n c) ∧ w'.cell? ⟨w.heap.size, 1, none⟩ = some (.slice (some ⟨g, 0, none⟩) ps.length cap) ∧ w'.cell? ⟨w.heap.size + 1, 3, none⟩ = some (.slice (some ⟨sb, 0, none⟩) sl.length sl.length) ∧ w'.cell? ⟨sb, j, none⟩ = some (.int .i64 ij)) (first | exact KF.out _ hb5 | go_keep) ((go_at_call 35; refine W1.mono ?_; rintro e w5 ⟨rfl, hb5⟩))
      rename_i hHeld
      clear hHeld
      have hb6 : Below wr.heap.size wr w5 := (Below.refl _ _).drew.trans hb5
      have hB5 : Below w.heap.size w w5 := hbw.trans (hb6.mono hbw.size)
      have hown5 := ownsRow_below hown hb6
      have hp5 := (hb6.block _ (lt_of_get hpw)).trans hpw
      have hx5 := (hb6.block _ (lt_of_get hxw)).trans hxw
      have hs5 := hB5.size
      clear hown hpw hxw p0 p1 x0 x1 x3 x4 hb5 hb6 KF W1
      go_wp2_with (
        at_builtin
        go_must (refine wpList_append_lies _ (by rfl) _ _ 131 (by rfl) w.heap.size 9 i0 (.string ⟨#[]⟩) 1 16 Tryz.underlying131 hi hz0 hz1 hz2 (by rfl) (by decide) _ _ _ (by rfl) (hown5.alloc _) ⟨w5.heap.size, 0, none⟩ 1 1 [S fj] (by rfl) (by rfl) (World.news_of_block (heap_alloc_new w5 _)) (fun x hx => by simp at hx; rcases hx with rfl; rfl) (by decide) (by unfold maxLen; omega) (by omega) (by simp; omega) _ rfl ?_)
        intro g3 cap3 w3 hown3 hgrow3 hat hlt3)
      have hfar : ∀ (q : Nat) (cs : Array Value) (ty : TypeId), w5.heap[q]? = some (.cells cs ty (0, 0)) → ty ≠ 9 → w3.heap[q]? = some (.cells cs ty (0, 0)) := fun q cs ty hq ht => by
        rw [hgrow3.block q (by have := lt_of_get hq; simp; omega) (fun e => by
          obtain ⟨cs', hc⟩ := ownsRow_type hown5 e.symm
          rw [hq] at hc
          simp only [Option.some.injEq, Obj.cells.injEq] at hc
          exact ht hc.2.1), Below.heap_alloc _ _ _ (lt_of_get hq)]
        exact hq
      refine ⟨⟨j + 1, by omega, by simp, ?_, below_far1 hB5 hown5 hgrow3, hfar _ _ _ hp5 (by decide), hfar _ _ _ hx5 (by decide)⟩, by simp [intOf]; omega⟩
      rw [HTK.out, List.map_append, HGJ.out]
      simpa [HFJ.out] using hown3
    · have hke : j = sl.length := by omega
      subst hke
      rw [List.take_length] at hown
      clear hpw hxw p0 p1
      by_cases htk : tk = 110
      · obtain ⟨e1, e2⟩ := HN.out htk
        have h20 : (10 : Nat) ^ 20 = 100000000000000000000 := by decide
        have hT := tens_any 20 (decVal tx) wr (by omega) e2 (by decide) (by decide)
        clear h20
        have HE : Hid (r = tensF 20 (decVal tx)) := by show _ = _; rw [← HR.out, if_pos htk]; rfl
        subst htk
        rw [e1] at x4
        generalize tensF 20 (decVal tx) = tt at *
        generalize decVal tx = dv at *
        clear hown HN HR
        go_wp2_with fail
        refine hT.mono ?_
        rintro e w1 ⟨rfl, hb1⟩
        clear hT
        go_wp2_with fail
        go_ret
        exact ⟨by rw [HE.out]; rfl, hbw.trans (hb1.mono hbw.size)⟩
      · have HE : Hid (r = overL tx (sl.map F)) := by show _ = _; rw [← HR.out, if_neg htk]
        have htk2 : ((tk : Int) == (110 : Int)) = false := by
          have : ¬ ((tk : Int) = 110) := by omega
          simpa using this
        obtain ⟨sv, sc, rfl, hst⟩ := rstr_row hown
        have hF0 := hF (sl.getD 0 0)
        have hF1 := hF (sl.getD 1 0)
        have hF2 := hF (sl.getD 2 0)
        clear hown HN HR htk x4 HSM IH HSC H0
        match sl, hl3, HE, hst, hF0, hF1, hF2 with
        | [], _, HE, _, _, _, _ =>
          have HE2 : Hid (r = tx) := HE.out
          clear HE
          simp only [List.length_nil] at *
          go_wp2_with fail
          go_ret
          exact ⟨by rw [HE2.out]; rfl, hbw⟩
        | [y], _, HE, hst, hF0, _, _ =>
          obtain ⟨gs, rfl, hc0⟩ := hst 0 (by simp)
          have HE2 : Hid (r = wsNot ++ F y ++ [41]) := HE.out
          simp only [List.getD_cons_zero] at hc0 hF0
          clear HE hst
          simp only [List.length_cons, List.length_nil] at *
          generalize F y = fy at *
          go_wp2_with fail
          go_ret
          refine ⟨?_, hbw⟩
          rw [HE2.out]
          have e1 := rba_cat wsNot fy
          have e2 := rba_cat (wsNot ++ fy) [41]
          exact congrArg (fun s => Ending.returned (Value.string s)) (by rw [← e2, ← e1]; rfl)
        | [y, z], _, HE, hst, hF0, hF1, _ =>
          obtain ⟨gs, rfl, hc0⟩ := hst 0 (by simp)
          obtain ⟨gs', e', hc1⟩ := hst 1 (by simp)
          obtain rfl : gs = gs' := by simpa using e'
          have HE2 : Hid (r = [40] ++ F y ++ [32] ++ tx ++ [32] ++ F z ++ [41]) := HE.out
          simp only [List.getD_cons_zero, List.getD_cons_succ] at hc0 hF0 hc1 hF1
          clear HE hst e'
          simp only [List.length_cons, List.length_nil] at *
          generalize F y = fy at *
          generalize F z = fz at *
          have s1 : ¬ 9223372036854775807 < 1 + fy.length := by omega
          have s2 : ¬ 9223372036854775807 < 1 + fy.length + 1 := by omega
          have s3 : ¬ 9223372036854775807 < 1 + fy.length + 1 + tx.length := by omega
          have s4 : ¬ 9223372036854775807 < 1 + fy.length + 1 + tx.length + 1 := by omega
          have s5 : ¬ 9223372036854775807 < 1 + fy.length + 1 + tx.length + 1 + fz.length := by omega
          have s6 : ¬ 9223372036854775807 < 1 + fy.length + 1 + tx.length + 1 + fz.length + 1 := by omega
          have HB : Hid (Below w.heap.size w wr.drew) := hbw.drew
          go_wp2_with fail
          go_region_held (fun w' => w'.cell? ⟨gs, 0, none⟩ = some (S fy) ∧ w'.cell? ⟨gs, 1, none⟩ = some (S fz) ∧ w'.cell? ⟨w.heap.size + 1, 1, none⟩ = some (S tx)) (go_keep) (fail)
          go_wp2_with fail
          go_ret
          refine ⟨?_, HB.out⟩
          rw [HE2.out]
          have e1 := rba_cat [40] fy
          have e2 := rba_cat ([40] ++ fy) [32]
          have e3 := rba_cat ([40] ++ fy ++ [32]) tx
          have e4 := rba_cat ([40] ++ fy ++ [32] ++ tx) [32]
          have e5 := rba_cat ([40] ++ fy ++ [32] ++ tx ++ [32]) fz
          have e6 := rba_cat ([40] ++ fy ++ [32] ++ tx ++ [32] ++ fz) [41]
          exact congrArg (fun s => Ending.returned (Value.string s)) (by rw [← e6, ← e5, ← e4, ← e3, ← e2, ← e1])
        | [y, z, u], _, HE, hst, hF0, hF1, hF2 =>
          obtain ⟨gs, rfl, hc0⟩ := hst 0 (by simp)
          obtain ⟨gs', e', hc1⟩ := hst 1 (by simp)
          obtain rfl : gs = gs' := by simpa using e'
          obtain ⟨gs'', e'', hc2⟩ := hst 2 (by simp)
          obtain rfl : gs = gs'' := by simpa using e''
          have HE2 : Hid (r = wsIf ++ F y ++ wsThen ++ F z ++ wsElse ++ F u ++ [41]) := HE.out
          simp only [List.getD_cons_zero, List.getD_cons_succ] at hc0 hF0 hc1 hF1 hc2 hF2
          clear HE hst e' e''
          simp only [List.length_cons, List.length_nil] at *
          generalize F y = fy at *
          generalize F z = fz at *
          generalize F u = fu at *
          have s1 : ¬ 9223372036854775807 < 4 + fy.length := by omega
          have s2 : ¬ 9223372036854775807 < 4 + fy.length + 6 := by omega
          have s3 : ¬ 9223372036854775807 < 4 + fy.length + 6 + fz.length := by omega
          have s4 : ¬ 9223372036854775807 < 4 + fy.length + 6 + fz.length + 6 := by omega
          have s5 : ¬ 9223372036854775807 < 4 + fy.length + 6 + fz.length + 6 + fu.length := by omega
          have s6 : ¬ 9223372036854775807 < 4 + fy.length + 6 + fz.length + 6 + fu.length + 1 := by omega
          have HB : Hid (Below w.heap.size w wr.drew) := hbw.drew
          go_wp2_with fail
          go_region_held (fun w' => w'.cell? ⟨gs, 0, none⟩ = some (S fy) ∧ w'.cell? ⟨gs, 1, none⟩ = some (S fz) ∧ w'.cell? ⟨gs, 2, none⟩ = some (S fu)) (go_keep) (fail)
          go_wp2_with fail
          go_ret
          refine ⟨?_, HB.out⟩
          rw [HE2.out]
          have e1 := rba_cat wsIf fy
          have e2 := rba_cat (wsIf ++ fy) wsThen
          have e3 := rba_cat (wsIf ++ fy ++ wsThen) fz
          have e4 := rba_cat (wsIf ++ fy ++ wsThen ++ fz) wsElse
          have e5 := rba_cat (wsIf ++ fy ++ wsThen ++ fz ++ wsElse) fu
          have e6 := rba_cat (wsIf ++ fy ++ wsThen ++ fz ++ wsElse ++ fu) [41]
          exact congrArg (fun s => Ending.returned (Value.string s)) (by rw [← e6, ← e5, ← e4, ← e3, ← e2, ← e1]; rfl)
        | _ :: _ :: _ :: _ :: _, hl3, _, _, _, _, _ => simp at hl3
end Go.Proofs.YtfkdailfcmnjlaaGreatDoor
