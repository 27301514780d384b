/-
  The reference's functions that find the words of a text answer as the plain lexer does. The reference's function 'word' answers as the plain lexer does, at names and signs. The reference's function 'word' answers as the plain lexer does, at names and signs.
-/
import Derived.Test.YtfkdailfcmnjlaaGreatDoorCompiles01
import Derived.Test.YtfkdailfcmnjlaaGreatDoorCompiles04
import Derived.Test.YtfkdailfcmnjlaaGreatDoorCompiles05
import Derived.WalkKit
import Derived.Deep.QuietTactic
import Derived.BigQuiet
import Derived.WalkSpells
import GoSem.Op.String
set_option linter.unusedVariables false
set_option linter.unusedSimpArgs false
namespace Go.Proofs.YtfkdailfcmnjlaaGreatDoor
open Go Go.RowKit
set_option maxRecDepth 100000

theorem binOp_string_gtr (t : TypeId) (a b : ByteArray) : binOp .gtr t (.string a) (.string b) = pure (.bool (!Op.bytesLess a.toList b.toList && !a.toList == b.toList)) := by simp [binOp, Op.stringOp]
attribute [local go_sem] binOp_string_gtr

theorem z_of {c : UInt8} {b : Bool} (h : ((c.toNat : Int) == 48) = b) : isZ c = b := by
  unfold isZ; rw [← h, Bool.eq_iff_iff]; simp; omega

theorem toList_from (s : List UInt8) (k : Nat) : ((ByteArray.mk s.toArray).extract k s.length).toList = s.drop k := by
  rw [ByteArray.extract_mk, ByteArray.toList_mk]
  exact List.take_of_length_le (by simp)

theorem greatB_of (s : List UInt8) (k : Nat) (h : stop isZ s 0 = k) : greatB s = (decide (19 < s.length - k) || (decide (s.length - k = 19) && gtB (s.drop k) kMost)) := by
  unfold greatB; rw [h]; simp

theorem great_fin (s : List UInt8) (k : Nat) (h : stop isZ s 0 = k) :
    (19 < s.length - k → greatB s = true) ∧ (s.length - k ≤ 19 → ¬ s.length - k = 19 → greatB s = false) ∧ (s.length - k = 19 → greatB s = gtB (s.drop k) kMost) := by
  rw [greatB_of s k h]
  refine ⟨fun h1 => by simp [h1], fun h1 h2 => ?_, fun h1 => by simp [h1]⟩
  simp [h2]; omega

set_option maxHeartbeats 400000 in
theorem great_raw (s : List UInt8) (w : World) (hs : s.length ≤ 1000) :
    Calls Tryz.prog 157 #[S s] w fun e w' => e = .returned (.bool (greatB s)) ∧ w' = w := by
  go_enter Tryz.func157, Tryz.ntmps157
  go_wp2
  go_loop [3] (fun i => ∃ k : Nat, k ≤ s.length ∧ i = .int .i64 k ∧ stop isZ s 0 = stop isZ s k) (fun i => s.length - (intOf i).toNat)
  case atStart => exact ⟨0, Nat.zero_le _, rfl, rfl⟩
  case round =>
    obtain ⟨k, hk, rfl, hi⟩ := hrel
    have H : Hid _ := hi
    clear hi
    by_cases hlt : k < s.length
    · go_wp2
      · refine ⟨⟨k + 1, by omega, by go_num, ?_⟩, by simp [intOf]; omega⟩
        rw [H.out]; exact stop_step isZ s k hlt (z_of ‹_›)
      all_goals
        have hf := great_fin s k (by rw [H.out]; exact stop_no isZ s k hlt (z_of ‹_›))
        go_ret
        refine ⟨ret_bool ?_, rfl⟩
      · rw [hf.2.2 (by omega)]
        rw [toList_from]; rfl
      · rw [hf.2.1 (by omega) (by omega)]
        simp; omega
      · exact (hf.1 (by omega)).symm
    · have hstop := stop_end isZ s k (by omega)
      have hf : Hid _ := great_fin s k (by rw [H.out, hstop])
      clear hstop
      go_wp2
      go_ret
      refine ⟨ret_bool ?_, rfl⟩
      rw [hf.out.2.1 (by omega) (by omega)]
      simp; omega

theorem cut_ex (l : List UInt8) (a b : Nat) : (ByteArray.mk l.toArray).extract a b = ⟨(cut l a b).toArray⟩ := ByteArray.extract_mk l a b
theorem cut_len (l : List UInt8) (a b : Nat) (h : b ≤ l.length) : (cut l a b).length = b - a := by
  unfold cut; simp; omega
theorem cut_stop (p : UInt8 → Bool) (l : List UInt8) (a : Nat) : ∀ c ∈ cut l a (stop p l a), p c = true := by
  intro c hc
  unfold cut stop at hc
  have h1 : a + ((l.drop a).takeWhile p).length - a = ((l.drop a).takeWhile p).length := by omega
  rw [h1] at hc
  have h2 : (l.drop a).take ((l.drop a).takeWhile p).length = (l.drop a).takeWhile p := by
    have := (List.takeWhile_prefix (l := l.drop a) p)
    exact (List.prefix_iff_eq_take.1 this).symm
  rw [h2] at hc
  have h3 := List.all_takeWhile (p := p) (l := l.drop a)
  exact List.all_eq_true.1 h3 c hc

theorem d_yes {c : UInt8} (h1 : 48 ≤ (c.toNat : Int)) (h2 : (c.toNat : Int) ≤ 57) : isD c = true := by
  unfold isD; simp; omega
theorem d_no1 {c : UInt8} (h1 : (c.toNat : Int) < 48) : isD c = false := by
  unfold isD; simp; omega
theorem d_no2 {c : UInt8} (h1 : 57 < (c.toNat : Int)) : isD c = false := by
  unfold isD; simp; omega
theorem l_yes {c : UInt8} (h1 : 97 ≤ (c.toNat : Int)) (h2 : (c.toNat : Int) ≤ 122) : isL c = true := by
  unfold isL; simp; omega
theorem l_no1 {c : UInt8} (h1 : (c.toNat : Int) < 97) : isL c = false := by
  unfold isL; simp; omega
theorem l_no2 {c : UInt8} (h1 : 122 < (c.toNat : Int)) : isL c = false := by
  unfold isL; simp; omega

def tokV (t : Tok) : Value := .agg #[.int .u8 t.k, S t.text, .int .i64 t.pl]
/-- What 'word' answers. -/
def WordAns (l : List UInt8) (a : Nat) (e : Ending) : Prop := match wordAt l a with
  | some t => e = .returned (.tuple #[tokV t, .bool true])
  | none => ∃ k s p, e = .returned (.tuple #[.agg #[.int .u8 k, S s, .int .i64 p], .bool false])

theorem wa_num (l : List UInt8) (a D : Nat) (h : wordAt l a = if big (cut l a D) = true then none else some ⟨110, cut l a D, a⟩) (hg : greatB (cut l a D) = big (cut l a D)) :
    WordAns l a (.returned (.tuple #[.agg #[.int .u8 110, S (cut l a D), .int .i64 a], .bool (!greatB (cut l a D))])) := by
  unfold WordAns; rw [h, hg]
  cases big (cut l a D)
  · rfl
  · exact ⟨110, _, a, rfl⟩
theorem wa_some (l : List UInt8) (a : Nat) (t : Tok) (h : wordAt l a = some t) : WordAns l a (.returned (.tuple #[tokV t, .bool true])) := by
  unfold WordAns; rw [h]
theorem wa_none (l : List UInt8) (a : Nat) (k : Int) (s : List UInt8) (p : Int) (h : wordAt l a = none) : WordAns l a (.returned (.tuple #[.agg #[.int .u8 k, S s, .int .i64 p], .bool false])) := by
  unfold WordAns; rw [h]; exact ⟨k, s, p, rfl⟩
theorem bcell {W w1 : World} (hb : Below W.heap.size W w1) : (∀ b o, b < W.heap.size → w1.cell? ⟨b, o, none⟩ = W.cell? ⟨b, o, none⟩) ∧ (∀ b o, b < W.heap.size → w1.frozen? ⟨b, o, none⟩ = W.frozen? ⟨b, o, none⟩) :=
  ⟨fun b o h => hb.cell (p := ⟨b, o, none⟩) h, fun b o h => hb.frozen (p := ⟨b, o, none⟩) h⟩

theorem cell_set_same (w : World) (b i : Nat) (v : Value) (h : (w.cell? ⟨b, i, none⟩).isSome = true) : (w.setCell ⟨b, i, none⟩ v).cell? ⟨b, i, none⟩ = some v := by
  cases e : w.cell? ⟨b, i, none⟩ with
  | none => rw [e] at h; simp at h
  | some u => exact World.cell?_setCell_same _ _ _ e
theorem cell_set_off (w : World) (b i j : Nat) (v : Value) (h : i ≠ j) : (w.setCell ⟨b, i, none⟩ v).cell? ⟨b, j, none⟩ = w.cell? ⟨b, j, none⟩ :=
  World.cell?_setCell_other _ _ _ _ (by simp [h])
theorem some_set (w : World) (b i j : Nat) (v : Value) (h : (w.cell? ⟨b, j, none⟩).isSome = true) : ((w.setCell ⟨b, i, none⟩ v).cell? ⟨b, j, none⟩).isSome = true := by
  by_cases e : i = j
  · subst e; rw [cell_set_same _ _ _ _ h]; rfl
  · rw [cell_set_off _ _ _ _ _ e]; exact h

set_option maxHeartbeats 1000000 in
theorem word_num (l : List UInt8) (a : Nat) (w : World) (hl : l.length ≤ 1000) (ha : a < l.length) (hd : a < stop isD l a) :
    Calls Tryz.prog 112 #[S l, .int .i64 a] w fun e w' => WordAns l a e ∧ Below w.heap.size w w' := by
  have hwa : Hid (wordAt l a = if big (cut l a (stop isD l a)) then none else some ⟨110, cut l a (stop isD l a), a⟩) := by
    show _ = _; unfold wordAt; rw [if_pos hd]
  have hle := stop_le isD l a (by omega)
  have hgb : Hid _ := greatB_big _ (cut_stop isD l a)
  generalize hD : stop isD l a = D at *
  have HD : Hid _ := hD
  clear hD
  go_enter Tryz.func112, Tryz.ntmps112
  go_wp2_with fail
  go_loop [6] (fun i => ∃ k : Nat, a ≤ k ∧ k ≤ l.length ∧ i = .int .i64 k ∧ D = stop isD l k) (fun i => l.length - (intOf i).toNat)
  case atStart => exact ⟨a, Nat.le_refl _, by omega, rfl, HD.out.symm⟩
  case round =>
    obtain ⟨k, hak, hk, rfl, hi⟩ := hrel
    have H : Hid _ := hi
    clear hi
    by_cases hlt : k < l.length
    · go_wp2_with fail
      case roundEnd =>
        refine ⟨⟨k + 1, by omega, by omega, by go_num, ?_⟩, by simp [intOf]; omega⟩
        rw [H.out]; exact stop_step isD l k hlt (d_yes ‹_› ‹_›)
      all_goals
        have hstop : D = k := by rw [H.out]; exact stop_no isD l k hlt (by first | exact d_no1 ‹_› | exact d_no2 ‹_›)
        subst hstop
        try (exfalso; omega)
      all_goals
        rw [cut_ex]
        refine (great_raw (cut l a D) _ (by rw [cut_len l a D hle]; omega)).mono ?_
        rintro e w1 ⟨rfl, rfl⟩
        go_wp2_with fail
        exact bodyPost_ret (v := .tuple #[.agg #[.int .u8 110, S (cut l a D), .int .i64 a], .bool (!greatB (cut l a D))]) (by simp [results, Tryz.results112, go_sem, cut_ex]) rfl ⟨wa_num l a D hwa.out hgb.out, (Below.refl _ _).alloc (Nat.le_refl _) _⟩
    · have hstop : D = k := by rw [H.out]; exact stop_end isD l k (by omega)
      subst hstop
      go_wp2_with fail
      rw [cut_ex]
      refine (great_raw (cut l a D) _ (by rw [cut_len l a D hle]; omega)).mono ?_
      rintro e w1 ⟨rfl, rfl⟩
      go_wp2_with fail
      exact bodyPost_ret (v := .tuple #[.agg #[.int .u8 110, S (cut l a D), .int .i64 a], .bool (!greatB (cut l a D))]) (by simp [results, Tryz.results112, go_sem, cut_ex]) rfl ⟨wa_num l a D hwa.out hgb.out, (Below.refl _ _).alloc (Nat.le_refl _) _⟩

theorem no_first {p : UInt8 → Bool} {l : List UInt8} {a : Nat} (ha : a < l.length) (h : ¬ a < stop p l a) : p l[a] = false := by
  cases e : p l[a] with
  | false => rfl
  | true => exact absurd (by rw [stop_step p l a ha e]; have := stop_ge p l (a + 1); omega) h
theorem d_not {c : UInt8} (h : isD c = false) : (c.toNat : Int) < 48 ∨ 57 < (c.toNat : Int) := by
  unfold isD at h; simp at h; omega
theorem l_not {c : UInt8} (h : isL c = false) : (c.toNat : Int) < 97 ∨ 122 < (c.toNat : Int) := by
  unfold isL at h; simp at h; omega

end Go.Proofs.YtfkdailfcmnjlaaGreatDoor

namespace Go.Proofs.YtfkdailfcmnjlaaGreatDoor
open Go Go.RowKit
set_option maxRecDepth 100000

theorem below_set3 {a w : World} {b : Nat} (h : Below b a w) (u v x : Value) : Below b a (((w.setCell ⟨b, 0, none⟩ u).setCell ⟨b, 1, none⟩ v).setCell ⟨b, 2, none⟩ x) :=
  ((h.setCell (p := ⟨b, 0, none⟩) (Nat.le_refl _) u).setCell (p := ⟨b, 1, none⟩) (Nat.le_refl _) v).setCell (p := ⟨b, 2, none⟩) (Nat.le_refl _) x
theorem wa_own (l : List UInt8) (a D : Nat) (hk : ¬ isKw (cut l a D) = true) (h : wordAt l a = if isKw (cut l a D) = true then some ⟨107, cut l a D, a⟩ else if D - a ≤ 8 then some ⟨111, cut l a D, a⟩ else none) (hd : a ≤ D) :
    WordAns l a (.returned (.tuple #[.agg #[.int .u8 111, S (cut l a D), .int .i64 a], .bool (decide ((D : Int) - a ≤ 8))])) := by
  rw [if_neg hk] at h
  by_cases h8 : D - a ≤ 8
  · rw [if_pos h8] at h
    rw [decide_eq_true (by omega)]
    exact wa_some l a _ h
  · rw [if_neg h8] at h
    rw [decide_eq_false (by omega)]
    exact wa_none l a _ _ _ h

set_option maxHeartbeats 1000000 in
theorem word_name (l : List UInt8) (a : Nat) (w : World) (hl : l.length ≤ 1000) (ha : a < l.length) (hd : ¬ a < stop isD l a) (hL : a < stop isL l a) :
    Calls Tryz.prog 112 #[S l, .int .i64 a] w fun e w' => WordAns l a e ∧ Below w.heap.size w w' := by
  have hwa : wordAt l a = (if isKw (cut l a (stop isL l a)) then some ⟨107, cut l a (stop isL l a), a⟩
     else if stop isL l a - a ≤ 8 then some ⟨111, cut l a (stop isL l a), a⟩ else none) := by
    unfold wordAt; rw [if_neg hd, if_pos hL]
  have hle := stop_le isL l a (by omega)
  have hla : isL l[a] = true := by
    cases e : isL l[a] with
    | true => rfl
    | false => exact absurd hL (by rw [stop_no isL l a ha e]; omega)
  have hnd : (97 : Int) ≤ (((ByteArray.mk l.toArray)[a]'ha).toNat : Int) := by
    have h : 97 ≤ l[a].toNat := by unfold isL at hla; simp at hla; omega
    exact Int.ofNat_le.2 h
  generalize hD : stop isL l a = D at *
  have HD : Hid _ := hD
  have HW : Hid _ := hwa
  clear hD hd hwa hla
  go_enter Tryz.func112, Tryz.ntmps112
  go_wp2_with fail
  go_loop [6] (fun i => i = .int .i64 a) (fun _ => 0)
  case atStart => exact rfl
  case round =>
    subst hrel
    all_goals
      go_wp2_with fail
      go_loop [6] (fun i => ∃ k : Nat, a ≤ k ∧ k ≤ l.length ∧ i = .int .i64 k ∧ D = stop isL l k) (fun i => l.length - (intOf i).toNat)
      case atStart => exact ⟨a, Nat.le_refl _, by omega, rfl, HD.out.symm⟩
    all_goals
      obtain ⟨k, hak, hk, rfl, hi⟩ := hrel
      have H : Hid _ := hi
      clear hi hnd
      by_cases hlt : k < l.length
    all_goals go_wp2_with fail
    all_goals try (case roundEnd =>
        refine ⟨⟨k + 1, by omega, by omega, by go_num, ?_⟩, by simp [intOf]; omega⟩
        rw [H.out]; exact stop_step isL l k hlt (l_yes ‹_› ‹_›))
    all_goals
      have hstop : D = k := by
        rw [H.out]
        first
        | exact stop_no isL l k hlt (by first | exact l_no1 ‹_› | exact l_no2 ‹_›)
        | exact stop_end isL l k (by omega)
      subst hstop
      try (exfalso; omega)
    all_goals
      rw [cut_ex]
      refine (isKeyword_any (cut l a D) _).mono ?_
      rintro e w1 ⟨rfl, hb⟩
      obtain ⟨hc, hf⟩ := bcell hb
      have hz : w.heap.size < w1.heap.size := by have := hb.size; simp at this; omega
    all_goals
      by_cases hkw : isKw (cut l a D) = true
    all_goals
      have hbb : Below w.heap.size w w1 := ((Below.refl _ _).alloc (Nat.le_refl _) _).trans (hb.mono (by simp))
      go_wp2_with fail
    all_goals first
      | exact bodyPost_ret (v := .tuple #[.agg #[.int .u8 107, S (cut l a D), .int .i64 a], .bool true]) (by simp [results, Tryz.results112, go_sem, cut_ex, hc, hz, cell_set_same, cell_set_off, some_set]) rfl ⟨wa_some l a ⟨107, cut l a D, a⟩ (by rw [HW.out, if_pos hkw]), below_set3 hbb _ _ _⟩
      | exact bodyPost_ret (v := .tuple #[.agg #[.int .u8 111, S (cut l a D), .int .i64 a], .bool (decide ((D : Int) - a ≤ 8))]) (by simp [results, Tryz.results112, go_sem, cut_ex, hc, hz, cell_set_same, cell_set_off, some_set]) rfl ⟨wa_own l a D hkw HW.out (by omega), below_set3 hbb _ _ _⟩


theorem wa_sign (l : List UInt8) (a : Nat) (ha : a < l.length) (hd : ¬ a < stop isD l a) (hL : ¬ a < stop isL l a) : wordAt l a =
      if l[a].toNat = 60 then (if (l.getD (a + 1) 0).toNat = 61 then some ⟨115, [60, 61], a⟩ else some ⟨115, [60], a⟩)
      else if l[a].toNat = 40 ∨ l[a].toNat = 41 ∨ l[a].toNat = 59 ∨ l[a].toNat = 43 ∨ l[a].toNat = 45 ∨ l[a].toNat = 61 then some ⟨115, [l[a]], a⟩
      else none := by
  unfold wordAt; rw [if_neg hd, if_neg hL, List.getElem?_eq_getElem ha]
theorem eqn {c : UInt8} {k : Nat} (h : ((c.toNat : Int) == (k : Int)) = true) : c.toNat = k := by simp at h; omega
theorem nqn {c : UInt8} {k : Nat} (h : ((c.toNat : Int) == (k : Int)) = false) : ¬ c.toNat = k := by simp at h; omega
theorem cut_one (l : List UInt8) (a : Nat) (ha : a < l.length) : cut l a (a + 1) = [l[a]] := by
  unfold cut; rw [List.drop_eq_getElem_cons ha, show a + 1 - a = 1 from by omega]; rfl
/-- The text behind a sign of one byte. -/
def SignEq (l : List UInt8) (a : Nat) (ha : a < l.length) : Prop := wordAt l a =
      if l[a].toNat = 60 then (if (l.getD (a + 1) 0).toNat = 61 then some ⟨115, [60, 61], a⟩ else some ⟨115, [60], a⟩)
      else if l[a].toNat = 40 ∨ l[a].toNat = 41 ∨ l[a].toNat = 59 ∨ l[a].toNat = 43 ∨ l[a].toNat = 45 ∨ l[a].toNat = 61 then some ⟨115, [l[a]], a⟩
      else none
theorem wa_one (l : List UInt8) (a : Nat) (ha : a < l.length) (k : Nat) (hw : SignEq l a ha) (hk : k = 40 ∨ k = 41 ∨ k = 59 ∨ k = 43 ∨ k = 45 ∨ k = 61) (h : ((l[a].toNat : Int) == (k : Int)) = true) :
    WordAns l a (.returned (.tuple #[.agg #[.int .u8 115, S [l[a]], .int .i64 a], .bool true])) := by
  have e := eqn h
  refine wa_some l a ⟨115, [l[a]], a⟩ ?_
  rw [hw, if_neg (by omega), if_pos (by omega)]
theorem wa_le (l : List UInt8) (a : Nat) (ha : a < l.length) (hw : SignEq l a ha) (h : ((l[a].toNat : Int) == (60 : Nat)) = true) (h1 : a + 1 < l.length) (h2 : ((l[a + 1].toNat : Int) == (61 : Nat)) = true) :
    WordAns l a (.returned (.tuple #[.agg #[.int .u8 115, S [60, 61], .int .i64 a], .bool true])) := by
  refine wa_some l a ⟨115, [60, 61], a⟩ ?_
  rw [hw, if_pos (eqn h), if_pos (by rw [List.getD_eq_getElem?_getD, List.getElem?_eq_getElem h1]; exact eqn h2)]
theorem wa_lt (l : List UInt8) (a : Nat) (ha : a < l.length) (hw : SignEq l a ha) (h : ((l[a].toNat : Int) == (60 : Nat)) = true) (h1 : l.length ≤ a + 1 ∨ ∃ h1 : a + 1 < l.length, ((l[a + 1].toNat : Int) == (61 : Nat)) = false) :
    WordAns l a (.returned (.tuple #[.agg #[.int .u8 115, S [60], .int .i64 a], .bool true])) := by
  refine wa_some l a ⟨115, [60], a⟩ ?_
  rw [hw, if_pos (eqn h)]
  rcases h1 with h1 | ⟨h1, h2⟩
  · rw [if_neg (by rw [List.getD_eq_getElem?_getD, List.getElem?_eq_none h1]; decide)]
  · rw [if_neg (by rw [List.getD_eq_getElem?_getD, List.getElem?_eq_getElem h1]; exact nqn h2)]
theorem wa_no (l : List UInt8) (a : Nat) (ha : a < l.length) (hw : SignEq l a ha) (h60 : ((l[a].toNat : Int) == (60 : Nat)) = false) (h40 : ((l[a].toNat : Int) == (40 : Nat)) = false) (h41 : ((l[a].toNat : Int) == (41 : Nat)) = false)
    (h59 : ((l[a].toNat : Int) == (59 : Nat)) = false) (h43 : ((l[a].toNat : Int) == (43 : Nat)) = false) (h45 : ((l[a].toNat : Int) == (45 : Nat)) = false) (h61 : ((l[a].toNat : Int) == (61 : Nat)) = false) :
    WordAns l a (.returned (.tuple #[.agg #[.int .u8 0, S [], .int .i64 0], .bool false])) := by
  refine wa_none l a 0 [] 0 ?_
  have := nqn h60; have := nqn h40; have := nqn h41; have := nqn h59; have := nqn h43; have := nqn h45; have := nqn h61
  rw [hw, if_neg (by omega), if_neg (by omega)]
end Go.Proofs.YtfkdailfcmnjlaaGreatDoor

namespace Go.Proofs.YtfkdailfcmnjlaaGreatDoor
open Go Go.RowKit
set_option maxRecDepth 100000

set_option maxHeartbeats 1000000 in
theorem word_sign (l : List UInt8) (a : Nat) (w : World) (hl : l.length ≤ 1000) (ha : a < l.length) (hd : ¬ a < stop isD l a) (hL : ¬ a < stop isL l a) :
    Calls Tryz.prog 112 #[S l, .int .i64 a] w fun e w' => WordAns l a e ∧ Below w.heap.size w w' := by
  have hwa : Hid (SignEq l a ha) := wa_sign l a ha hd hL
  have hnd : (((ByteArray.mk l.toArray)[a]'ha).toNat : Int) < 48 ∨ 57 < (((ByteArray.mk l.toArray)[a]'ha).toNat : Int) := d_not (no_first ha hd)
  have hnl : (((ByteArray.mk l.toArray)[a]'ha).toNat : Int) < 97 ∨ 122 < (((ByteArray.mk l.toArray)[a]'ha).toNat : Int) := l_not (no_first ha hL)
  clear hd hL
  go_enter Tryz.func112, Tryz.ntmps112
  go_wp2_with fail
  go_loop [6] (fun i => i = .int .i64 a) (fun _ => 0)
  case atStart => exact rfl
  case round =>
    subst hrel
    rcases hnd with hnd | hnd
    all_goals
      go_wp2_with fail
      go_loop [6] (fun i => i = .int .i64 a) (fun _ => 0)
      case atStart => exact rfl
    all_goals
      subst hrel
      rcases hnl with hnl | hnl
    all_goals try (exfalso; omega)
    all_goals go_wp2_with fail
    all_goals first
      | exact bodyPost_ret (v := .tuple #[.agg #[.int .u8 115, S [l[a]], .int .i64 a], .bool true]) (by simp [results, Tryz.results112, go_sem, cut_ex, cut_one l a ha]) rfl ⟨wa_one l a ha 40 hwa.out (by decide) ‹_›, (Below.refl _ _).alloc (Nat.le_refl _) _⟩
      | exact bodyPost_ret (v := .tuple #[.agg #[.int .u8 115, S [l[a]], .int .i64 a], .bool true]) (by simp [results, Tryz.results112, go_sem, cut_ex, cut_one l a ha]) rfl ⟨wa_one l a ha 41 hwa.out (by decide) ‹_›, (Below.refl _ _).alloc (Nat.le_refl _) _⟩
      | exact bodyPost_ret (v := .tuple #[.agg #[.int .u8 115, S [l[a]], .int .i64 a], .bool true]) (by simp [results, Tryz.results112, go_sem, cut_ex, cut_one l a ha]) rfl ⟨wa_one l a ha 59 hwa.out (by decide) ‹_›, (Below.refl _ _).alloc (Nat.le_refl _) _⟩
      | exact bodyPost_ret (v := .tuple #[.agg #[.int .u8 115, S [l[a]], .int .i64 a], .bool true]) (by simp [results, Tryz.results112, go_sem, cut_ex, cut_one l a ha]) rfl ⟨wa_one l a ha 43 hwa.out (by decide) ‹_›, (Below.refl _ _).alloc (Nat.le_refl _) _⟩
      | exact bodyPost_ret (v := .tuple #[.agg #[.int .u8 115, S [l[a]], .int .i64 a], .bool true]) (by simp [results, Tryz.results112, go_sem, cut_ex, cut_one l a ha]) rfl ⟨wa_one l a ha 45 hwa.out (by decide) ‹_›, (Below.refl _ _).alloc (Nat.le_refl _) _⟩
      | exact bodyPost_ret (v := .tuple #[.agg #[.int .u8 115, S [l[a]], .int .i64 a], .bool true]) (by simp [results, Tryz.results112, go_sem, cut_ex, cut_one l a ha]) rfl ⟨wa_one l a ha 61 hwa.out (by decide) ‹_›, (Below.refl _ _).alloc (Nat.le_refl _) _⟩
      | exact bodyPost_ret (v := .tuple #[.agg #[.int .u8 115, S [60, 61], .int .i64 a], .bool true]) (by simp [results, Tryz.results112, go_sem]) rfl ⟨wa_le l a ha hwa.out ‹_› (by omega) ‹_›, (Below.refl _ _).alloc (Nat.le_refl _) _⟩
      | exact bodyPost_ret (v := .tuple #[.agg #[.int .u8 115, S [60], .int .i64 a], .bool true]) (by simp [results, Tryz.results112, go_sem]) rfl ⟨wa_lt l a ha hwa.out ‹_› (.inl (by omega)), (Below.refl _ _).alloc (Nat.le_refl _) _⟩
      | exact bodyPost_ret (v := .tuple #[.agg #[.int .u8 115, S [60], .int .i64 a], .bool true]) (by simp [results, Tryz.results112, go_sem]) rfl ⟨wa_lt l a ha hwa.out ‹_› (.inr ⟨by omega, ‹_›⟩), (Below.refl _ _).alloc (Nat.le_refl _) _⟩
      | exact bodyPost_ret (v := .tuple #[.agg #[.int .u8 0, S [], .int .i64 0], .bool false]) (by simp [results, Tryz.results112, go_sem]) rfl ⟨wa_no l a ha hwa.out ‹_› ‹_› ‹_› ‹_› ‹_› ‹_› ‹_›, (Below.refl _ _).alloc (Nat.le_refl _) _⟩

theorem word_any (l : List UInt8) (a : Nat) (w : World) (hl : l.length ≤ 1000) (ha : a < l.length) :
    Calls Tryz.prog 112 #[S l, .int .i64 a] w fun e w' => WordAns l a e ∧ Below w.heap.size w w' := by
  by_cases hd : a < stop isD l a
  · exact word_num l a w hl ha hd
  · by_cases hL : a < stop isL l a
    · exact word_name l a w hl ha hd hL
    · exact word_sign l a w hl ha hd hL
end Go.Proofs.YtfkdailfcmnjlaaGreatDoor
