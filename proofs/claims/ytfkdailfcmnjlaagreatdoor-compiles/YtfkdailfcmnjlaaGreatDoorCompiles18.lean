/-
  The program's function 'number' answers as the plain lexer does. The program's first word of a text, in plain Lean. The program's function 'first' answers as the plain lexer does. The program's function 'Split' answers as the plain lexer does. The program's reader: its state in memory, and its small methods. The program's reader: 'take' and 'fail'. The program's reader: 'want', and the library's Contains that it asks. The program's reader: 'want'. Kinds of words, in plain Lean: what the program asks of a kind is what the plain reader asks of a word.
-/
import Derived.Test.YtfkdailfcmnjlaaGreatDoorCompiles01
import Derived.Test.YtfkdailfcmnjlaaGreatDoorCompiles04
import Derived.Test.YtfkdailfcmnjlaaGreatDoorCompiles05
import Derived.Test.YtfkdailfcmnjlaaGreatDoorCompiles06
import Derived.Test.YtfkdailfcmnjlaaGreatDoorCompiles07
import Derived.Test.YtfkdailfcmnjlaaGreatDoorCompiles08
import Derived.Test.YtfkdailfcmnjlaaGreatDoorCompiles16
import Derived.Test.YtfkdailfcmnjlaaGreatDoorCompiles17
import Derived.Test.YtfkdailfcmnjlaaGreatDoorLays
import Derived.WalkKit
import Derived.Deep.QuietTactic
import Derived.BigQuiet
import Derived.WalkSpells
import GoSem.Op.String
import Derived.Deep.AppendLies
import Derived.Deep.RegionHeld3
import Derived.Deep.DrawnRows
import Derived.Deep.RegionHeldLaw
import Derived.Deep.RegionLaw
import Derived.Lib.ParseIntBCases
set_option linter.unusedVariables false
set_option linter.unusedSimpArgs false
namespace Go.Proofs.YtfkdailfcmnjlaaGreatDoor
open Go Go.RowKit
set_option maxRecDepth 100000
theorem parseInt_ok (s : ByteArray) (hmax : s.size ≤ 9223372036854775806) (v : Int) (h : Lib.parseIntB 64 s.data.toList = .ok v) (w : World) :
    Calls Tryz.prog 208 #[.string s, .int .i64 10, .int .i64 64] w fun e w' => e = .returned (.tuple #[.int .i64 v, .nilIface]) ∧ (w' = w ∨ ∃ t, w' = Lib.bytesWorld w 5 t) := Any.strconv_ParseInt_10_at64_ok laysPI s hmax v h w
theorem parseInt_range (s : ByteArray) (hlim : s.size ≤ 281474976710656) (h : Lib.parseIntB 64 s.data.toList = .range) (ev : Value) (w : World) (hv : w.cell? ⟨4, 0, none⟩ = some ev) (hev : ev = .nilIface ∨ ∃ te pe, ev = .iface te pe) :
    Calls Tryz.prog 208 #[.string s, .int .i64 10, .int .i64 64] w fun e w' => ∃ N, e = .returned (.tuple #[.int .i64 (Lib.intSat 64 s.data.toList), .iface 346 (.pointer (some ⟨N, 0, none⟩))]) ∧ w.heap.size ≤ N ∧ w'.heap[N]? = some (.cells #[.string ⟨#[80, 97, 114, 115, 101, 73, 110, 116]⟩, .string s, ev] 357 (0, 0)) ∧ Below w.heap.size w w' := Any.strconv_ParseInt_10_at64_range laysPI s hlim h ev w hv hev

/-- What the program's words need of memory: the spellings, and the library's ErrRange. -/
structure Wd (w : World) : Prop where
  sp : Sp w
  er : ∃ ev, w.cell? ⟨4, 0, none⟩ = some ev ∧ (ev = .nilIface ∨ ∃ te pe, ev = .iface te pe)
theorem Wd.pos {w : World} (h : Wd w) : 0 < w.heap.size := h.sp.pos
theorem Wd.below {w w' : World} (h : Wd w) (hb : Below w.heap.size w w') : Wd w' := by
  refine ⟨h.sp.below h.pos hb, ?_⟩
  obtain ⟨ev, h1, h2⟩ := h.er
  exact ⟨ev, by rw [hb.cell (p := ⟨4, 0, none⟩) (World.block_lt_of_cell? w _ h1)]; exact h1, h2⟩

/-- A variable of type Word. -/
def wvObj (k a n : Int) (s : List UInt8) : Obj := .cells #[.int .i64 k, .int .i64 a, .int .i64 n, S s] 160 (0, 0)
theorem wv_cells {w : World} {b : Nat} {k a n : Int} {s : List UInt8} (h : w.heap[b]? = some (wvObj k a n s)) : (w.cell? ⟨b, 0, none⟩ = some (.int .i64 k) ∧ w.cell? ⟨b, 1, none⟩ = some (.int .i64 a) ∧ w.cell? ⟨b, 2, none⟩ = some (.int .i64 n) ∧ w.cell? ⟨b, 3, none⟩ = some (S s)) ∧ ∀ j, w.frozen? ⟨b, j, none⟩ = false := by
  have hc := fun j => cell_of_row w b j _ _ _ h
  exact ⟨⟨hc 0, hc 1, hc 2, hc 3⟩, fun j => by simp [World.frozen?, h, wvObj]⟩

set_option maxHeartbeats 2000000 in
theorem number_any (s : List UInt8) (w : World) (hW : Wd w) (hs : s.length ≤ 1000) (h0 : s ≠ []) (hl : ∀ c ∈ s, isD c = true) :
    Calls Tryz.prog 146 #[S s] w fun e w' => e = .returned (.tuple #[(numV s).1, .int .i64 (numV s).2]) ∧ Below w.heap.size w w' := by
  have hp := parse_digits s h0 hl
  have hsz : (ByteArray.mk s.toArray).size = s.length := by simp [ByteArray.size]
  have HA := (Below.refl w.heap.size w).alloc (Nat.le_refl _) (wvObj 0 0 0 [])
  have hnew : (w.alloc (wvObj 0 0 0 [])).heap[w.heap.size]? = some (wvObj 0 0 0 []) := heap_alloc_new w _
  have hsize : w.heap.size < (w.alloc (wvObj 0 0 0 [])).heap.size := by simp
  have hW2 := hW.below HA
  cases hb : big s with
  | true =>
    rw [hb, if_pos rfl] at hp
    have HV : Hid (numV s = (.agg #[.int .i64 0, .int .i64 0, .int .i64 0, S []], 0)) := by show _ = _; unfold numV; rw [if_pos hb]
    clear hb hl h0
    obtain ⟨ev, hv, hev⟩ := hW2.er
    have HI := parseInt_range ⟨s.toArray⟩ (by omega) (by simpa using hp) ev _ hv hev
    clear hv hev hp hW hW2
    have HA' : Hid _ := HA
    have hnew' : Hid _ := hnew
    have hsize' : Hid _ := hsize
    clear HA hnew hsize hsz
    go_enter Tryz.func146, Tryz.ntmps146
    go_wp2_with fail
    refine HI.mono ?_
    rintro e w' ⟨n, rfl, hn, hn2, hbl⟩
    have hat : w'.heap[w.heap.size]? = some (wvObj 0 0 0 []) := by rw [hbl.block _ hsize'.out]; exact hnew'.out
    have HB : Hid (Below w.heap.size w w') := HA'.out.trans (hbl.mono (Nat.le_of_lt hsize'.out))
    obtain ⟨⟨c0, c1, c2, c3⟩, cf⟩ := wv_cells hat
    clear HI hn2 hat hbl hn HA' hnew' hsize'
    generalize hn0 : w.heap.size = nb at c0 c1 c2 c3 cf HB ⊢
    have HN : Hid _ := hn0
    clear hn0
    go_wp2_with fail
    have hge : w.heap.size ≤ nb := Nat.le_of_eq HN.out
    exact bodyPost_ret (v := .tuple #[.agg #[.int .i64 0, .int .i64 0, .int .i64 0, S []], .int .i64 0]) (by simp [results, Tryz.results146, go_sem, c0, c1, c2, c3, cf]) rfl ⟨by rw [HV.out]; rfl, (((((HB.out.mono hge).setCell hge _).setCell hge _).setCell hge _).setCell hge _)⟩
  | false =>
    rw [hb, if_neg (by simp)] at hp
    have HV : Hid (numV s = (.agg #[.int .i64 1, .int .i64 0, .int .i64 (decVal s), S []], s.length)) := by show _ = _; unfold numV; rw [if_neg (by simp [hb])]
    clear hb hl h0
    have HI := parseInt_ok ⟨s.toArray⟩ (by omega) _ (by simpa using hp) (w.alloc (wvObj 0 0 0 []))
    clear hp hW hW2
    have HA' : Hid _ := HA
    have hnew' : Hid _ := hnew
    have hsize' : Hid _ := hsize
    clear HA hnew hsize hsz
    go_enter Tryz.func146, Tryz.ntmps146
    go_wp2_with fail
    refine HI.mono ?_
    rintro e w' ⟨rfl, hww⟩
    have hbl : Below (w.alloc (wvObj 0 0 0 [])).heap.size (w.alloc (wvObj 0 0 0 [])) w' := by
      rcases hww with rfl | ⟨t, rfl⟩
      · exact Below.refl _ _
      · exact Lib.bytesWorld_below _ _ _
    have hat : w'.heap[w.heap.size]? = some (wvObj 0 0 0 []) := by rw [hbl.block _ hsize'.out]; exact hnew'.out
    have HB : Hid (Below w.heap.size w w') := HA'.out.trans (hbl.mono (Nat.le_of_lt hsize'.out))
    obtain ⟨⟨c0, c1, c2, c3⟩, cf⟩ := wv_cells hat
    clear HI hat hbl hww HA' hnew' hsize'
    generalize hn0 : w.heap.size = nb at c0 c1 c2 c3 cf HB ⊢
    have HN : Hid _ := hn0
    clear hn0
    go_wp2_with fail
    have hge : w.heap.size ≤ nb := Nat.le_of_eq HN.out
    exact bodyPost_ret (v := .tuple #[.agg #[.int .i64 1, .int .i64 0, .int .i64 (decVal s), S []], .int .i64 s.length]) (by simp [results, Tryz.results146, go_sem, c0, c1, c2, c3, cf]) rfl ⟨by rw [HV.out], (((((HB.out.mono hge).setCell hge _).setCell hge _).setCell hge _).setCell hge _)⟩
end Go.Proofs.YtfkdailfcmnjlaaGreatDoor

namespace Go.Proofs.YtfkdailfcmnjlaaGreatDoor
open Go Go.RowKit
set_option maxRecDepth 100000

/-- What the program keeps of a word. -/
def nmOf (t : Tok) : Nat := if t.k = 110 then decVal t.text else 0
def ownOf (t : Tok) : List UInt8 := if t.k = 111 then t.text else []
def wordV (t : Tok) (a : Nat) : Value := .agg #[.int .i64 (kindOf t), .int .i64 a, .int .i64 (nmOf t), S (ownOf t)]
/-- What 'first' answers. -/
def firstV (s : List UInt8) : Value × Nat := if isD (s.getD 0 0) then numV (s.take (stop isD s 0)) else if isL (s.getD 0 0) then nameV (s.take (stop isL s 0)) else signV s

theorem signK_cons (c : UInt8) (r : List UInt8) : signK (c :: r) = if c = 40 then some 3 else if c = 41 then some 4 else if c = 59 then some 5 else if c = 43 then some 6 else if c = 45 then some 7 else if c = 61 then some 8 else if c = 60 then (if (r.getD 0 0) = 61 then some 9 else some 10) else none := by
  by_cases h : 40 = c
  · subst h; simp [signK, List.range', List.find?, spell, List.isPrefixOf]
  by_cases h : 41 = c
  · subst h; simp [signK, List.range', List.find?, spell, List.isPrefixOf]
  by_cases h : 59 = c
  · subst h; simp [signK, List.range', List.find?, spell, List.isPrefixOf]
  by_cases h : 43 = c
  · subst h; simp [signK, List.range', List.find?, spell, List.isPrefixOf]
  by_cases h : 45 = c
  · subst h; simp [signK, List.range', List.find?, spell, List.isPrefixOf]
  by_cases h : 61 = c
  · subst h; simp [signK, List.range', List.find?, spell, List.isPrefixOf]
  by_cases h : 60 = c
  · subst h
    cases r with
    | nil => simp [signK, List.range', List.find?, spell, List.isPrefixOf]
    | cons d r =>
      by_cases h : 61 = d
      · subst h; simp [signK, List.range', List.find?, spell, List.isPrefixOf]
      · have h' : ¬ d = 61 := fun e => h e.symm
        have hb : ((61 : UInt8) == d) = false := by simpa using h
        simp [signK, List.range', List.find?, spell, List.isPrefixOf, h', hb]
  have hb : ∀ x : UInt8, ¬ x = c → (x == c) = false := fun x hx => by simpa using hx
  have hc : ∀ x : UInt8, ¬ x = c → ¬ c = x := fun x hx e => hx e.symm
  rename_i h1 h2 h3 h4 h5 h6
  simp [signK, List.range', List.find?, spell, List.isPrefixOf, hb _ h, hb _ h1, hb _ h2, hb _ h3, hb _ h4, hb _ h5, hb _ h6, hc _ h, hc _ h1, hc _ h2, hc _ h3, hc _ h4, hc _ h5, hc _ h6]

theorem stop_drop (p : UInt8 → Bool) (l : List UInt8) (a : Nat) : stop p l a = a + stop p (l.drop a) 0 := by
  unfold stop; simp
theorem cut_drop (l : List UInt8) (a n : Nat) : cut l a (a + n) = (l.drop a).take n := by
  unfold cut; rw [show a + n - a = n from by omega]
theorem stop_pos (p : UInt8 → Bool) (c : UInt8) (r : List UInt8) : 0 < stop p (c :: r) 0 ↔ p c = true := by
  unfold stop
  cases h : p c <;> simp [h]
theorem stop_len (p : UInt8 → Bool) (s : List UInt8) : (s.take (stop p s 0)).length = stop p s 0 := by
  rw [List.length_take]; have := stop_le p s 0 (Nat.zero_le _); omega
theorem toNat_eq (c : UInt8) (n : Nat) (hn : n < 256) : c.toNat = n ↔ c = UInt8.ofNat n := by
  constructor
  · intro h; rw [← h]; simp
  · intro h; rw [h]; simp; omega

/-- The first word is what the plain lexer says. -/
theorem firstV_spec (l : List UInt8) (a : Nat) (ha : a < l.length) :
    (wordAt l a = none ∧ firstV (l.drop a) = (.agg #[.int .i64 0, .int .i64 0, .int .i64 0, S []], 0)) ∨ ∃ t, wordAt l a = some t ∧ firstV (l.drop a) = (wordV t 0, t.text.length) ∧ 0 < t.text.length := by
  have hget : l[a]? = some l[a] := List.getElem?_eq_getElem ha
  have hdrop : l.drop a = l[a] :: l.drop (a + 1) := List.drop_eq_getElem_cons ha
  have hnext : l.getD (a + 1) 0 = (l.drop (a + 1)).getD 0 0 := by simp [List.getD_eq_getElem?_getD]
  unfold wordAt
  rw [stop_drop isD l a, stop_drop isL l a, cut_drop, cut_drop, hget, hnext]
  simp only [Nat.lt_add_right_iff_pos, Nat.add_sub_cancel_left]
  unfold firstV
  rw [hdrop]
  generalize l[a] = c
  generalize l.drop (a + 1) = r
  rw [show (c :: r).getD 0 0 = c from rfl]
  simp only [stop_pos]
  by_cases hd : isD c = true
  · rw [if_pos hd, if_pos hd]
    have hlen := stop_len isD (c :: r)
    have hp := (stop_pos isD c r).2 hd
    unfold numV
    cases hb : big ((c :: r).take (stop isD (c :: r) 0)) with
    | true => left; exact ⟨by simp, by simp⟩
    | false => right; exact ⟨_, by rw [if_neg (by simp)], by simp [wordV, kindOf, nmOf, ownOf], by rw [hlen]; exact hp⟩
  · rw [if_neg hd, if_neg hd]
    by_cases hL : isL c = true
    · rw [if_pos hL, if_pos hL]
      have hlen := stop_len isL (c :: r)
      have hp := (stop_pos isL c r).2 hL
      unfold nameV
      cases hb : isKw ((c :: r).take (stop isL (c :: r) 0)) with
      | true =>
        right
        refine ⟨_, by rw [if_pos rfl], ?_, by rw [hlen]; exact hp⟩
        have : 0 ≤ idx spell ((c :: r).take (stop isL (c :: r) 0)) := mem_idx (List.mem_of_mem_drop ((isKw_iff _).1 hb))
        rw [if_pos rfl]
        simp only [wordV, kindOf, nmOf, ownOf]
        simp [Int.toNat_of_nonneg this]
      | false =>
        simp only [Bool.false_eq_true, if_false, hlen]
        by_cases h8 : stop isL (c :: r) 0 ≤ 8
        · right
          exact ⟨_, by rw [if_pos h8], by rw [if_pos h8]; simp [wordV, kindOf, nmOf, ownOf, hlen], by rw [hlen]; exact hp⟩
        · left; exact ⟨by rw [if_neg h8], by rw [if_neg h8]⟩
    · rw [if_neg hL, if_neg hL]
      unfold signV
      rw [signK_cons]
      simp only [toNat_eq _ 60 (by omega), toNat_eq _ 61 (by omega), toNat_eq _ 40 (by omega), toNat_eq _ 41 (by omega), toNat_eq _ 59 (by omega), toNat_eq _ 43 (by omega), toNat_eq _ 45 (by omega)]
      clear hd hL hdrop hget hnext
      by_cases h : c = 60
      · subst h
        by_cases h2 : r.getD 0 0 = 61
        · right
          exact ⟨⟨115, [60, 61], a⟩, by rw [h2]; rfl, by rw [h2]; rfl, by simp⟩
        · right
          refine ⟨⟨115, [60], a⟩, ?_, ?_, by simp⟩
          · show (if _ then (if r.getD 0 0 = UInt8.ofNat 61 then _ else _) else _) = _
            rw [if_pos (show (60 : UInt8) = UInt8.ofNat 60 from rfl), if_neg (show ¬ r.getD 0 0 = UInt8.ofNat 61 from h2)]
          · simp only [h2, if_false]; rfl
      by_cases h : c = 40
      · subst h; right
        exact ⟨⟨115, [40], a⟩, rfl, rfl, by simp⟩
      by_cases h : c = 41
      · subst h; right
        exact ⟨⟨115, [41], a⟩, rfl, rfl, by simp⟩
      by_cases h : c = 59
      · subst h; right
        exact ⟨⟨115, [59], a⟩, rfl, rfl, by simp⟩
      by_cases h : c = 43
      · subst h; right
        exact ⟨⟨115, [43], a⟩, rfl, rfl, by simp⟩
      by_cases h : c = 45
      · subst h; right
        exact ⟨⟨115, [45], a⟩, rfl, rfl, by simp⟩
      by_cases h : c = 61
      · subst h; right
        exact ⟨⟨115, [61], a⟩, rfl, rfl, by simp⟩
      left
      rename_i h1 h2 h3 h4 h5 h6
      exact ⟨by simp [h, h1, h2, h3, h4, h5, h6], by simp [h, h1, h2, h3, h4, h5, h6]⟩
end Go.Proofs.YtfkdailfcmnjlaaGreatDoor

namespace Go.Proofs.YtfkdailfcmnjlaaGreatDoor
open Go Go.RowKit
set_option maxRecDepth 100000

theorem take_all (p : UInt8 → Bool) (s : List UInt8) : ∀ c ∈ s.take (stop p s 0), p c = true := by
  intro c hc
  unfold stop at hc
  simp only [Nat.zero_add, List.drop_zero] at hc
  have : s.take (s.takeWhile p).length = s.takeWhile p := (List.prefix_iff_eq_take.1 (List.takeWhile_prefix p)).symm
  rw [this] at hc
  exact (List.all_eq_true.1 (List.all_takeWhile)) c hc
theorem cut_zero (s : List UInt8) (n : Nat) : cut s 0 n = s.take n := by unfold cut; simp
theorem num_shape (s : List UInt8) : ∃ (k n : Int) (t : List UInt8) (z : Nat), numV s = (.agg #[.int .i64 k, .int .i64 0, .int .i64 n, S t], z) := by
  unfold numV; split <;> exact ⟨_, _, _, _, rfl⟩
theorem name_shape (s : List UInt8) : ∃ (k n : Int) (t : List UInt8) (z : Nat), nameV s = (.agg #[.int .i64 k, .int .i64 0, .int .i64 n, S t], z) := by
  unfold nameV; split
  · exact ⟨_, _, _, _, rfl⟩
  · split <;> exact ⟨_, _, _, _, rfl⟩
theorem sign_shape (s : List UInt8) : ∃ (k n : Int) (t : List UInt8) (z : Nat), signV s = (.agg #[.int .i64 k, .int .i64 0, .int .i64 n, S t], z) := by
  unfold signV; split <;> exact ⟨_, _, _, _, rfl⟩

set_option maxHeartbeats 4000000 in
theorem first_any (s : List UInt8) (w : World) (hW : Wd w) (hs : s.length ≤ 1000) (h0 : 0 < s.length) :
    Calls Tryz.prog 102 #[S s] w fun e w' => e = .returned (.tuple #[(firstV s).1, .int .i64 (firstV s).2]) ∧ Below w.heap.size w w' := by
  have hg : s.getD 0 0 = s[0] := by simp [List.getD_eq_getElem?_getD, List.getElem?_eq_getElem h0]
  have HA := (Below.refl w.heap.size w).alloc (Nat.le_refl _) (wvObj 0 0 0 [])
  have hnew : (w.alloc (wvObj 0 0 0 [])).heap[w.heap.size]? = some (wvObj 0 0 0 []) := heap_alloc_new w _
  have hsize : w.heap.size < (w.alloc (wvObj 0 0 0 [])).heap.size := by simp
  have hW2 := hW.below HA
  have HA' : Hid _ := HA
  have hnew' : Hid _ := hnew
  have hsize' : Hid _ := hsize
  clear HA hnew hsize hW
  by_cases hd : isD s[0] = true
  · have HV : Hid (firstV s = numV (s.take (stop isD s 0))) := by show _ = _; unfold firstV; rw [hg, if_pos hd]
    obtain ⟨k, n, t, z, hsh⟩ := num_shape (s.take (stop isD s 0))
    have hle := stop_le isD s 0 (Nat.zero_le _)
    have hpos : 0 < stop isD s 0 := by rw [stop_step isD s 0 h0 hd]; exact stop_ge _ _ _
    have hne : s.take (stop isD s 0) ≠ [] := by intro e; have := congrArg List.length e; rw [stop_len] at this; simp at this; omega
    have HI := number_any (s.take (stop isD s 0)) _ hW2 (by rw [stop_len]; omega) hne (take_all isD s)
    rw [hsh] at HI
    have HS : Hid _ := hsh
    have HD : Hid _ := hd
    have HR := run_digits s (w.alloc (wvObj 0 0 0 [])) hs
    rw [← cut_zero] at HI
    have HQ : Hid (stop isD s 0 = stop isD s 0) := rfl
    clear hd hg hsh hpos hne
    generalize hj : stop isD s 0 = j at hle HI HR
    clear hj HQ
    go_enter Tryz.func102, Tryz.ntmps102
    go_wp2_with fail
    refine (isDigit_any s[0] _).mono ?_
    rintro e w' ⟨rfl, rfl⟩
    rw [HD.out]
    go_wp2_with fail
    refine HR.mono ?_
    rintro e w' ⟨rfl, rfl⟩
    clear HR
    go_wp2_with fail
    rw [cut_ex]
    refine HI.mono ?_
    rintro e w' ⟨rfl, hbl⟩
    have hat : w'.heap[w.heap.size]? = some (wvObj 0 0 0 []) := by rw [hbl.block _ hsize'.out]; exact hnew'.out
    have HB : Hid (Below w.heap.size w w') := HA'.out.trans (hbl.mono (Nat.le_of_lt hsize'.out))
    obtain ⟨⟨c0, c1, c2, c3⟩, cf⟩ := wv_cells hat
    clear HI hat hbl HA' hnew' hsize' hW2
    generalize hn0 : w.heap.size = nb at c0 c1 c2 c3 cf HB ⊢
    have HN : Hid _ := hn0
    clear hn0
    go_wp2_with fail
    have hge : w.heap.size ≤ nb := Nat.le_of_eq HN.out
    exact bodyPost_ret (v := .tuple #[.agg #[.int .i64 k, .int .i64 0, .int .i64 n, S t], .int .i64 z]) (by simp [results, Tryz.results102, go_sem, c0, c1, c2, c3, cf]) rfl ⟨by rw [HV.out, HS.out], (((((HB.out.mono hge).setCell hge _).setCell hge _).setCell hge _).setCell hge _)⟩
  · have hd' : isD s[0] = false := by simpa using hd
    have HD : Hid _ := hd'
    by_cases hL : isL s[0] = true
    · have HV : Hid (firstV s = nameV (s.take (stop isL s 0))) := by show _ = _; unfold firstV; rw [hg, if_neg hd, if_pos hL]
      obtain ⟨k, n, t, z, hsh⟩ := name_shape (s.take (stop isL s 0))
      have hle := stop_le isL s 0 (Nat.zero_le _)
      have hpos : 0 < stop isL s 0 := by rw [stop_step isL s 0 h0 hL]; exact stop_ge _ _ _
      have hne : s.take (stop isL s 0) ≠ [] := by intro e; have := congrArg List.length e; rw [stop_len] at this; simp at this; omega
      have HI := name_any (s.take (stop isL s 0)) _ hW2.sp (by rw [stop_len]; omega) hne (take_all isL s)
      rw [hsh] at HI
      have HS : Hid _ := hsh
      have HL : Hid _ := hL
      have HR := run_letters s (w.alloc (wvObj 0 0 0 [])) hs
      rw [← cut_zero] at HI
      clear hd hd' hL hg hsh hpos hne
      generalize hj : stop isL s 0 = j at hle HI HR
      clear hj
      go_enter Tryz.func102, Tryz.ntmps102
      go_wp2_with fail
      refine (isDigit_any s[0] _).mono ?_
      rintro e w' ⟨rfl, rfl⟩
      rw [HD.out]
      go_wp2_with fail
      refine (isLetter_any s[0] _).mono ?_
      rintro e w' ⟨rfl, rfl⟩
      rw [HL.out]
      go_wp2_with fail
      refine HR.mono ?_
      rintro e w' ⟨rfl, rfl⟩
      clear HR
      go_wp2_with fail
      rw [cut_ex]
      refine HI.mono ?_
      rintro e w' ⟨rfl, hbl⟩
      have hat : w'.heap[w.heap.size]? = some (wvObj 0 0 0 []) := by rw [hbl.block _ hsize'.out]; exact hnew'.out
      have HB : Hid (Below w.heap.size w w') := HA'.out.trans (hbl.mono (Nat.le_of_lt hsize'.out))
      obtain ⟨⟨c0, c1, c2, c3⟩, cf⟩ := wv_cells hat
      clear HI hat hbl HA' hnew' hsize' hW2
      generalize hn0 : w.heap.size = nb at c0 c1 c2 c3 cf HB ⊢
      have HN : Hid _ := hn0
      clear hn0
      go_wp2_with fail
      have hge : w.heap.size ≤ nb := Nat.le_of_eq HN.out
      exact bodyPost_ret (v := .tuple #[.agg #[.int .i64 k, .int .i64 0, .int .i64 n, S t], .int .i64 z]) (by simp [results, Tryz.results102, go_sem, c0, c1, c2, c3, cf]) rfl ⟨by rw [HV.out, HS.out], (((((HB.out.mono hge).setCell hge _).setCell hge _).setCell hge _).setCell hge _)⟩
    · have HV : Hid (firstV s = signV s) := by show _ = _; unfold firstV; rw [hg, if_neg hd, if_neg hL]
      obtain ⟨k, n, t, z, hsh⟩ := sign_shape s
      have HI := sign_any s _ hW2.sp hs
      rw [hsh] at HI
      have HS : Hid _ := hsh
      have hL' : isL s[0] = false := by simpa using hL
      have HL : Hid _ := hL'
      clear hd hd' hL hL' hg hsh
      go_enter Tryz.func102, Tryz.ntmps102
      go_wp2_with fail
      refine (isDigit_any s[0] _).mono ?_
      rintro e w' ⟨rfl, rfl⟩
      rw [HD.out]
      go_wp2_with fail
      refine (isLetter_any s[0] _).mono ?_
      rintro e w' ⟨rfl, rfl⟩
      rw [HL.out]
      go_wp2_with fail
      refine HI.mono ?_
      rintro e w' ⟨rfl, hbl⟩
      have hat : w'.heap[w.heap.size]? = some (wvObj 0 0 0 []) := by rw [hbl.block _ hsize'.out]; exact hnew'.out
      have HB : Hid (Below w.heap.size w w') := HA'.out.trans (hbl.mono (Nat.le_of_lt hsize'.out))
      obtain ⟨⟨c0, c1, c2, c3⟩, cf⟩ := wv_cells hat
      clear HI hat hbl HA' hnew' hsize' hW2
      generalize hn0 : w.heap.size = nb at c0 c1 c2 c3 cf HB ⊢
      have HN : Hid _ := hn0
      clear hn0
      go_wp2_with fail
      have hge : w.heap.size ≤ nb := Nat.le_of_eq HN.out
      exact bodyPost_ret (v := .tuple #[.agg #[.int .i64 k, .int .i64 0, .int .i64 n, S t], .int .i64 z]) (by simp [results, Tryz.results102, go_sem, c0, c1, c2, c3, cf]) rfl ⟨by rw [HV.out, HS.out], (((((HB.out.mono hge).setCell hge _).setCell hge _).setCell hge _).setCell hge _)⟩
end Go.Proofs.YtfkdailfcmnjlaaGreatDoor

namespace Go.Proofs.YtfkdailfcmnjlaaGreatDoor
open Go Go.RowKit
set_option maxRecDepth 100000

theorem info_pword : (Tryz.prog.info? 160).map (fun i => (i.zero, i.size, i.bytes)) = some (some (.agg #[.int .i64 0, .int .i64 0, .int .i64 0, .string ⟨#[]⟩]), 4, 40) := by kernel_rfl

/-- The cells of the program's words, one behind the other. -/
def wcell (t : Tok) : List Value := [.int .i64 (kindOf t), .int .i64 t.pl, .int .i64 (nmOf t), S (ownOf t)]
def wCells (ts : List Tok) : List Value := ts.flatMap wcell
theorem wCells_snoc (ts : List Tok) (t : Tok) : wCells (ts ++ [t]) = wCells ts ++ [.int .i64 (kindOf t), .int .i64 t.pl, .int .i64 (nmOf t), S (ownOf t)] := by simp [wCells, wcell]

theorem cell_four_new (w : World) (a b c d : Value) (t : TypeId) : ∀ j u, [a, b, c, d][j]? = some u → (w.alloc (.cells #[a, b, c, d] t)).cell? ((⟨w.heap.size, 0, none⟩ : Addr).add j) = some u := by
  intro j u hj
  match j, hj with
  | 0, hj => simp at hj; subst hj; simp [Addr.add]
  | 1, hj => simp at hj; subst hj; simp [Addr.add]
  | 2, hj => simp at hj; subst hj; simp [Addr.add]
  | 3, hj => simp at hj; subst hj; simp [Addr.add]
  | j + 4, hj => simp at hj

theorem cell_four_new2 (w : World) (o : Obj) (a b c d : Value) (t : TypeId) : ∀ j u, [a, b, c, d][j]? = some u → ((w.alloc o).alloc (.cells #[a, b, c, d] t)).cell? ((⟨w.heap.size + 1, 0, none⟩ : Addr).add j) = some u := by
  have h := cell_four_new (w.alloc o) a b c d t
  rw [World.size_alloc] at h; exact h
theorem cut_from (l : List UInt8) (j : Nat) : cut l j l.length = l.drop j := by
  unfold cut; exact List.take_of_length_le (by simp)
/-- What 'Split' answers. -/
def SplitAns (l : List UInt8) (w : World) (e : Ending) (w' : World) : Prop :=
  Below w.heap.size w w' ∧ match lex (l.length + 1) l 0 with
  | (ts, none) => ∃ g cap, e = .returned (.tuple #[.slice (some ⟨g, 0, none⟩) ts.length cap, .int .i64 0, .bool true]) ∧ w'.ownsRow w.heap.size 160 4 (.slice (some ⟨g, 0, none⟩) ts.length cap) ts.length (wCells ts)
  | (_, some p) => e = .returned (.tuple #[.slice none 0 0, .int .i64 p, .bool false])

set_option maxHeartbeats 2000000 in
theorem split_any (l : List UInt8) (w : World) (hW : Wd w) (hl : l.length ≤ 1000) :
    Calls Tryz.prog 55 #[S l] w fun e w' => SplitAns l w e w' := by
  obtain ⟨i0, hi, hz0, hz1, hz2⟩ := info_parts info_pword
  have HP := pastBlanks_any l 0 w hl (Nat.zero_le _)
  go_enter Tryz.func55, Tryz.ntmps55
  go_wp2_with fail
  refine HP.mono ?_
  rintro e w' ⟨rfl, rfl⟩
  clear HP
  have hst := stop_le isB l 0 (Nat.zero_le _)
  go_wp2_with fail
  go_loopw [5, 6] (fun v a wr => ∃ (ts : List Tok) (k f j : Nat), k ≤ j ∧ j ≤ l.length ∧ ts.length ≤ k ∧ a = .int .i64 j ∧ Hid (stop isB l k = j) ∧ l.length - k < f ∧ Hid (lex (l.length + 1) l 0 = (ts ++ (lex f l k).1, (lex f l k).2)) ∧ wr.ownsRow w'.heap.size 160 4 v ts.length (wCells ts) ∧ Below w'.heap.size w' wr) (fun _ a _ => l.length - (intOf a).toNat)
  case atStart => exact ⟨[], 0, l.length + 1, _, by omega, hst, by simp, rfl, rfl, by omega, rfl, World.ownsRow_nil _ _ _ _, Below.refl _ _⟩
  case round =>
    obtain ⟨ts, k, f, j, hkj, hj, htk, rfl, HB, hf, HS, hown, hbw⟩ := hrel
    have hWr : Hid _ := hW.below hbw
    by_cases hlt : j < l.length
    · have hlen : (l.drop j).length ≤ 1000 := by simp; omega
      have hlen2 : 0 < (l.drop j).length := by simp; omega
      rcases firstV_spec l j hlt with ⟨hwt, hfv⟩ | ⟨t, hwt, hfv, htl⟩
      · have HW : Hid _ := hwt
        have HI := first_any (l.drop j) wr hWr.out hlen hlen2
        rw [hfv] at HI
        clear hwt hfv hlen hlen2
        go_wp2_with fail
        rw [cut_ex, cut_from]
        refine HI.mono ?_
        rintro e w1 ⟨rfl, hb⟩
        clear HI
        go_wp2_with fail
        refine bodyPost_ret (v := .tuple #[.slice none 0 0, .int .i64 j, .bool false]) (by simp [results, Tryz.results55, go_sem]) rfl ?_
        refine ⟨(hbw.trans (hb.mono hbw.size)).alloc (by have := hb.size; have := hbw.size; omega) _, ?_⟩
        rw [HS.out, lex_none l k f j (by omega) hlt HB.out HW.out]
      · have HW : Hid _ := hwt
        have HI := first_any (l.drop j) wr hWr.out hlen hlen2
        rw [hfv] at HI
        unfold wordV at HI
        obtain ⟨ht1, ht2, ht3, ht4⟩ := wordAt_len hlt hwt
        have H3 : Hid _ := ht3
        have HP := fun w => pastBlanks_any l (j + t.text.length) w hl ht2
        have hst2 := stop_le isB l (j + t.text.length) ht2
        have hst3 := stop_ge isB l (j + t.text.length)
        clear hwt hfv hlen hlen2 ht3
        go_wp2_with fail
        rw [cut_ex, cut_from]
        refine HI.mono ?_
        rintro e w1 ⟨rfl, hb⟩
        clear HI
        have hbw1 : Below w'.heap.size w' w1 := hbw.trans (hb.mono hbw.size)
        have hown1 := ownsRow_below hown hb
        have hs1 := hb.size
        have hs0 := hbw.size
        go_wp2_with (
          at_builtin
          go_must (refine wpList_append_lies _ (by rfl) _ _ 137 (by rfl) w'.heap.size 160 i0 (.agg #[.int .i64 0, .int .i64 0, .int .i64 0, .string ⟨#[]⟩]) 4 40 Tryz.underlying137 hi hz0 hz1 hz2 (by rfl) (by decide) _ _ _ (by rfl) ((hown1.alloc _).alloc _) ⟨w1.heap.size + 1, 0, none⟩ 1 1 [.int .i64 (kindOf t), .int .i64 j, .int .i64 (nmOf t), S (ownOf t)] (by rfl) (by rfl) (cell_four_new2 _ _ _ _ _ _ _) (fun x hx => by simp at hx; rcases hx with rfl | rfl | rfl | rfl <;> rfl) (by decide) (by unfold maxLen; omega) (by omega) (by simp; omega) _ rfl ?_)
          intro g cap w3 hown3 hgrow3 hat hlt3
          have hbw3 := below_far hbw1 hown1 hgrow3
          clear hgrow3 hat)
        refine (HP _).mono ?_
        rintro e w4 ⟨rfl, rfl⟩
        clear HP
        generalize hj2 : stop isB l (j + t.text.length) = j2 at hst2 hst3 ⊢
        have HJ : Hid _ := hj2
        clear hj2
        go_wp2_with fail
        go_roundw
        case rel =>
          obtain ⟨f, rfl⟩ : ∃ f', f = f' + 1 := ⟨f - 1, by omega⟩
          refine ⟨ts ++ [t], j + t.text.length, f, _, hst3, hst2, by simp; omega, rfl, HJ.out, by omega, ?_, ?_, hbw3⟩
          · show _ = _
            rw [HS.out, lex_some l k f j t hlt HB.out HW.out]; simp
          · rw [wCells_snoc, H3.out]; simpa using hown3
        case measure => simp [intOf]; omega
    · have hjl : j = l.length := by omega
      subst hjl
      have hs0 := hbw.size
      go_wp2_with (
        at_builtin
        go_must (refine wpList_append_lies _ (by rfl) _ _ 137 (by rfl) w'.heap.size 160 i0 (.agg #[.int .i64 0, .int .i64 0, .int .i64 0, .string ⟨#[]⟩]) 4 40 Tryz.underlying137 hi hz0 hz1 hz2 (by rfl) (by decide) _ _ _ (by rfl) (hown.alloc _) ⟨wr.heap.size, 0, none⟩ 1 1 [.int .i64 0, .int .i64 l.length, .int .i64 0, S []] (by rfl) (by rfl) (cell_four_new _ _ _ _ _ _) (fun x hx => by simp at hx; rcases hx with rfl | rfl | rfl | rfl <;> rfl) (by decide) (by unfold maxLen; omega) (by omega) (by simp; omega) _ rfl ?_)
        intro g cap w3 hown3 hgrow3 hat hlt3)
      refine bodyPost_ret (v := .tuple #[.slice (some ⟨g, 0, none⟩) (ts.length + 1) cap, .int .i64 0, .bool true]) (by simp [results, Tryz.results55, go_sem]) rfl ?_
      refine ⟨below_far1 hbw hown hgrow3, ?_⟩
      rw [HS.out, lex_end l k f (by omega) HB.out]
      exact ⟨g, cap, by simp, by rw [wCells_snoc]; simpa [kindOf, nmOf, ownOf] using hown3⟩
end Go.Proofs.YtfkdailfcmnjlaaGreatDoor

namespace Go.Proofs.YtfkdailfcmnjlaaGreatDoor
open Go Go.RowKit
set_option maxRecDepth 100000

/-- The reader's state: the next word, has it failed, at which place. -/
structure Q where
  i : Nat
  bad : Bool
  pl : Nat

def rdObj (gl n cl : Nat) (s : Q) : Obj := .cells #[.slice (some ⟨gl, 0, none⟩) n cl, .int .i64 s.i, .bool s.bad, .int .i64 s.pl] 213 (0, 0)
/-- The reader's memory. -/
structure RR (rb gl cl : Nat) (ts : List Tok) (s : Q) (w : World) : Prop where
  rd : w.heap[rb]? = some (rdObj gl ts.length cl s)
  wl : ∃ cs, w.heap[gl]? = some (.cells cs 160 (0, 0))
  wc : ∀ i, i < ts.length → w.cell? ⟨gl, i * 4, none⟩ = some (.int .i64 (kindOf (tokAt ts i))) ∧ w.cell? ⟨gl, i * 4 + 1, none⟩ = some (.int .i64 (tokAt ts i).pl) ∧ w.cell? ⟨gl, i * 4 + 2, none⟩ = some (.int .i64 (nmOf (tokAt ts i))) ∧ w.cell? ⟨gl, i * 4 + 3, none⟩ = some (S (ownOf (tokAt ts i)))
  lt : s.i < ts.length
  nb : ts.length ≤ 1001
  fin : kindOf (tokAt ts (ts.length - 1)) = 0

theorem RR.cells {rb gl cl : Nat} {ts : List Tok} {s : Q} {w : World} (h : RR rb gl cl ts s w) : (w.cell? ⟨rb, 0, none⟩ = some (.slice (some ⟨gl, 0, none⟩) ts.length cl) ∧ w.cell? ⟨rb, 1, none⟩ = some (.int .i64 s.i) ∧ w.cell? ⟨rb, 2, none⟩ = some (.bool s.bad) ∧ w.cell? ⟨rb, 3, none⟩ = some (.int .i64 s.pl)) ∧ ∀ j, w.frozen? ⟨rb, j, none⟩ = false := by
  have hc := fun j => cell_of_row w rb j _ _ _ h.rd
  exact ⟨⟨hc 0, hc 1, hc 2, hc 3⟩, fun j => by simp [World.frozen?, h.rd, rdObj]⟩

set_option maxHeartbeats 1000000 in
theorem kind_any {rb gl cl : Nat} {ts : List Tok} {s : Q} {w : World} (h : RR rb gl cl ts s w) :
    Calls Tryz.prog 103 #[.pointer (some ⟨rb, 0, none⟩)] w fun e w' => e = .returned (.int .i64 (kindOf (tokAt ts s.i))) ∧ w' = w.drew := by
  obtain ⟨⟨r0, r1, r2, r3⟩, rf⟩ := h.cells
  obtain ⟨c0, c1, c2, c3⟩ := h.wc s.i h.lt
  have hlt := h.lt
  have hnb := h.nb
  clear h
  generalize kindOf (tokAt ts s.i) = kd at *
  go_enter Tryz.func103, Tryz.ntmps103
  go_wp2
  go_region_held (fun w' => w'.cell? ⟨rb, 0, none⟩ = some (.slice (some ⟨gl, 0, none⟩) ts.length cl) ∧ w'.cell? ⟨rb, 1, none⟩ = some (.int .i64 s.i) ∧ w'.cell? ⟨gl, s.i * 4, none⟩ = some (.int .i64 kd)) (go_keep) (fail)
  go_wp2
  go_ret
  exact ⟨rfl, rfl⟩

/-- What the reader leaves as it was: all but itself. -/
structure PF (rb : Nat) (w w' : World) : Prop where
  os : w'.os = w.os
  tape : w'.tape = w.tape
  output : w'.output = w.output
  size : w.heap.size ≤ w'.heap.size
  block : ∀ k, k < w.heap.size → k ≠ rb → w'.heap[k]? = w.heap[k]?
theorem PF.refl (rb : Nat) (w : World) : PF rb w w := ⟨rfl, rfl, rfl, Nat.le_refl _, fun _ _ _ => rfl⟩
theorem PF.trans {rb : Nat} {w w1 w2 : World} (h : PF rb w w1) (k : PF rb w1 w2) : PF rb w w2 :=
  ⟨k.os.trans h.os, k.tape.trans h.tape, k.output.trans h.output, Nat.le_trans h.size k.size, fun j hj h1 => (k.block j (Nat.lt_of_lt_of_le hj h.size) h1).trans (h.block j hj h1)⟩
theorem PF.drew {rb : Nat} {w w1 : World} (h : PF rb w w1) : PF rb w w1.drew := ⟨h.os, h.tape, h.output, h.size, h.block⟩
theorem PF.of_below {rb : Nat} {w w' : World} (h : Below w.heap.size w w') : PF rb w w' := ⟨h.os, h.tape, h.output, h.size, fun k hk _ => h.block k hk⟩
theorem PF.set {rb : Nat} {w w' : World} (h : PF rb w w') (j : Nat) (v : Value) : PF rb w (w'.setCell ⟨rb, j, none⟩ v) :=
  ⟨h.os, h.tape, h.output, by simpa using h.size, fun k hk h1 => by rw [Below.heap_setCell _ _ _ _ (by simpa using h1)]; exact h.block k hk h1⟩
theorem PF.alloc {rb : Nat} {w w' : World} (h : PF rb w w') (o : Obj) : PF rb w (w'.alloc o) :=
  ⟨h.os, h.tape, h.output, by simp; have := h.size; omega, fun k hk h1 => by rw [Below.heap_alloc _ _ _ (Nat.lt_of_lt_of_le hk h.size)]; exact h.block k hk h1⟩

theorem RR.ne {rb gl cl : Nat} {ts : List Tok} {s : Q} {w : World} (h : RR rb gl cl ts s w) : gl ≠ rb := fun e => by
  obtain ⟨cs, hc⟩ := h.wl
  rw [e, h.rd] at hc; simp [rdObj] at hc
theorem RR.rlt {rb gl cl : Nat} {ts : List Tok} {s : Q} {w : World} (h : RR rb gl cl ts s w) : rb < w.heap.size := lt_of_get h.rd
theorem RR.glt {rb gl cl : Nat} {ts : List Tok} {s : Q} {w : World} (h : RR rb gl cl ts s w) : gl < w.heap.size := lt_of_get h.wl.choose_spec
/-- The words lie as they lay. -/
theorem RR.move {rb gl cl : Nat} {ts : List Tok} {s s' : Q} {w w' : World} (h : RR rb gl cl ts s w) (hg : w'.heap[gl]? = w.heap[gl]?) (hr : w'.heap[rb]? = some (rdObj gl ts.length cl s')) (hl : s'.i < ts.length) : RR rb gl cl ts s' w' :=
  ⟨hr, by rw [hg]; exact h.wl, fun i hi => by
    have e : ∀ j, w'.cell? ⟨gl, j, none⟩ = w.cell? ⟨gl, j, none⟩ := fun j => World.cell?_of_block (w := w) hg
    rw [e, e, e, e]; exact h.wc i hi, hl, h.nb, h.fin⟩
theorem RR.below {rb gl cl : Nat} {ts : List Tok} {s : Q} {w w' : World} (h : RR rb gl cl ts s w) (hb : Below w.heap.size w w') : RR rb gl cl ts s w' :=
  h.move (hb.block _ h.glt) (by rw [hb.block _ h.rlt]; exact h.rd) h.lt
theorem RR.drew {rb gl cl : Nat} {ts : List Tok} {s : Q} {w : World} (h : RR rb gl cl ts s w) : RR rb gl cl ts s w.drew := h.move rfl h.rd h.lt
theorem RR.alloc {rb gl cl : Nat} {ts : List Tok} {s : Q} {w : World} (h : RR rb gl cl ts s w) (o : Obj) : RR rb gl cl ts s (w.alloc o) :=
  h.below ((Below.refl _ _).alloc (Nat.le_refl _) o)
theorem RR.set {rb gl cl : Nat} {ts : List Tok} {s : Q} {w : World} (h : RR rb gl cl ts s w) (s' : Q) (j : Nat) (v : Value) (e : (#[.slice (some ⟨gl, 0, none⟩) ts.length cl, .int .i64 s.i, .bool s.bad, .int .i64 s.pl] : Array Value).setIfInBounds j v = #[.slice (some ⟨gl, 0, none⟩) ts.length cl, .int .i64 s'.i, .bool s'.bad, .int .i64 s'.pl]) (hl : s'.i < ts.length) : RR rb gl cl ts s' (w.setCell ⟨rb, j, none⟩ v) :=
  h.move (Below.heap_setCell _ _ _ _ (by simpa using h.ne)) (by rw [heap_setCell_same w rb j _ _ v h.rd, e]; rfl) hl
end Go.Proofs.YtfkdailfcmnjlaaGreatDoor

namespace Go.Proofs.YtfkdailfcmnjlaaGreatDoor
open Go Go.RowKit
set_option maxRecDepth 100000
attribute [local go_sem ↓] Go.wp_at_zero Go.wp_at_succ

theorem RR.other {rb gl cl : Nat} {ts : List Tok} {s : Q} {w : World} (h : RR rb gl cl ts s w) {b : Nat} (h1 : b ≠ rb) (h2 : b ≠ gl) (j : Nat) (v : Value) : RR rb gl cl ts s (w.setCell ⟨b, j, none⟩ v) :=
  h.move (Below.heap_setCell _ _ _ _ (by simpa using h2.symm)) (by rw [Below.heap_setCell _ _ _ _ (by simpa using h1.symm)]; exact h.rd) h.lt
theorem PF.new {rb : Nat} {w w' : World} (h : PF rb w w') {b : Nat} (hb : w.heap.size ≤ b) (j : Nat) (v : Value) : PF rb w (w'.setCell ⟨b, j, none⟩ v) :=
  ⟨h.os, h.tape, h.output, by simpa using h.size, fun k hk h1 => by rw [Below.heap_setCell _ _ _ _ (by simp; omega)]; exact h.block k hk h1⟩
set_option maxHeartbeats 2000000 in
theorem take_any {rb gl cl : Nat} {ts : List Tok} {s : Q} {w : World} (h : RR rb gl cl ts s w) (hi : s.i + 1 < ts.length) :
    Calls Tryz.prog 212 #[.pointer (some ⟨rb, 0, none⟩)] w fun e w' => e = .returned (wordV (tokAt ts s.i) (tokAt ts s.i).pl) ∧ RR rb gl cl ts { s with i := s.i + 1 } w' ∧ PF rb w w' := by
  have hnb := h.nb
  have h1 := h.alloc (.cells #[.int .i64 0, .int .i64 0, .int .i64 0, .string ⟨#[]⟩] 160)
  have hbox : (w.alloc (.cells #[.int .i64 0, .int .i64 0, .int .i64 0, .string ⟨#[]⟩] 160)).heap[w.heap.size]? = some (.cells #[.int .i64 0, .int .i64 0, .int .i64 0, .string ⟨#[]⟩] 160) := heap_alloc_new w _
  have hF : PF rb w (w.alloc (.cells #[.int .i64 0, .int .i64 0, .int .i64 0, .string ⟨#[]⟩] 160)) := (PF.refl rb w).alloc _
  have hrl := h.rlt
  have hgl := h.glt
  clear h
  go_enter Tryz.func212, Tryz.ntmps212
  go_wp2
  generalize w.alloc (.cells #[.int .i64 0, .int .i64 0, .int .i64 0, .string ⟨#[]⟩] 160) = w1 at *
  obtain ⟨⟨r0, r1, r2, r3⟩, rf⟩ := h1.cells
  obtain ⟨c0, c1, c2, c3⟩ := h1.wc s.i h1.lt
  have hlt := h1.lt
  have n0 := World.new_ne w1 _ r0
  have n1 := World.new_ne w1 _ r1
  have m0 := World.new_ne w1 _ c0
  have m1 := World.new_ne w1 _ c1
  have m2 := World.new_ne w1 _ c2
  have m3 := World.new_ne w1 _ c3
  have H1 : Hid _ := h1
  have HF : Hid _ := hF
  have HX : Hid _ := hbox
  clear h1 hF hbox r2 r3
  generalize hk : kindOf (tokAt ts s.i) = tk at *
  generalize hp : (tokAt ts s.i).pl = tp at *
  generalize hm : nmOf (tokAt ts s.i) = tm at *
  generalize ho : ownOf (tokAt ts s.i) = tt at *
  have HK : Hid _ := hk
  have HP : Hid _ := hp
  have HM : Hid _ := hm
  have HO : Hid _ := ho
  clear hk hp hm ho
  go_region_held (fun w' => w'.cell? ⟨rb, 0, none⟩ = some (.slice (some ⟨gl, 0, none⟩) ts.length cl) ∧ w'.cell? ⟨rb, 1, none⟩ = some (.int .i64 s.i) ∧ w'.cell? ⟨gl, s.i * 4, none⟩ = some (.int .i64 tk) ∧ w'.cell? ⟨gl, s.i * 4 + 1, none⟩ = some (.int .i64 tp) ∧ w'.cell? ⟨gl, s.i * 4 + 2, none⟩ = some (.int .i64 tm) ∧ w'.cell? ⟨gl, s.i * 4 + 3, none⟩ = some (S tt)) (go_keep) (fail)
  rename_i hHeld
  clear hHeld r0 r1 rf c0 c1 c2 c3 n0 n1 m0 m1 m2 m3
  have h2 := (H1.out.alloc (wvObj tk tp tm tt)).drew
  have F2 := (HF.out.alloc (wvObj tk tp tm tt)).drew
  have hx2 : (w1.alloc (wvObj tk tp tm tt)).drew.heap[w1.heap.size]? = some (wvObj tk tp tm tt) := heap_alloc_new w1 _
  have hl1 : w.heap.size < w1.heap.size := lt_of_get HX.out
  have hy2 : (w1.alloc (wvObj tk tp tm tt)).drew.heap[w.heap.size]? = some (wvObj 0 0 0 []) := by
    show (w1.alloc (wvObj tk tp tm tt)).heap[w.heap.size]? = _
    rw [Below.heap_alloc _ _ _ hl1]; exact HX.out
  have e1 : w1.heap.size ≠ rb := by omega
  have e2 : w.heap.size ≠ rb := by omega
  have e3 : w.heap.size ≠ w1.heap.size := by omega
  unfold wvObj at h2 F2 hx2 hy2
  clear HX HF H1
  show Exit.then _ _ _ _ ((w1.alloc (.cells #[.int .i64 tk, .int .i64 tp, .int .i64 tm, S tt] 160 (0, 0))).drew)
  generalize (w1.alloc (.cells #[.int .i64 tk, .int .i64 tp, .int .i64 tm, S tt] 160 (0, 0))).drew = w2 at *
  have hge : w.heap.size ≤ w.heap.size := Nat.le_refl _
  generalize w1.heap.size = bx at *
  generalize hby : w.heap.size = bn at e2 e3 hl1 hy2 hrl hgl ⊢
  have HBY : Hid _ := hby
  clear hby
  obtain ⟨⟨r0, r1, r2, r3⟩, rf⟩ := h2.cells
  obtain ⟨⟨x0, x1, x2, x3⟩, xf⟩ := wv_cells hx2
  obtain ⟨⟨y0, y1, y2, y3⟩, yf⟩ := wv_cells hy2
  have H2 : Hid _ := h2
  have HF : Hid _ := F2
  clear h2 F2 hx2 hy2
  have e1' := e1.symm
  have e2' := e2.symm
  have e3' := e3.symm
  go_wp2
  have hbn : w.heap.size ≤ bn := Nat.le_of_eq HBY.out
  have hg : bn ≠ gl := by omega
  refine bodyPost_ret (v := .agg #[.int .i64 tk, .int .i64 tp, .int .i64 tm, S tt]) (by simp [results, Tryz.results212, go_sem, y0, y1, y2, y3, yf, e2, e2']) rfl ⟨?_, ?_, ?_⟩
  · unfold wordV; rw [HK.out, HP.out, HM.out, HO.out]
  · exact (((((H2.out.set { s with i := s.i + 1 } 1 _ (by simp) hi).other e2 hg _ _).other e2 hg _ _).other e2 hg _ _).other e2 hg _ _)
  · exact ((((HF.out.set 1 _).new hbn _ _).new hbn _ _).new hbn _ _).new hbn _ _
/-- The state behind a failure. -/
def failQ (ts : List Tok) (s : Q) : Q := ⟨ts.length - 1, true, if s.bad then s.pl else (tokAt ts s.i).pl⟩
set_option maxHeartbeats 2000000 in
theorem fail_any {rb gl cl : Nat} {ts : List Tok} {s : Q} {w : World} (h : RR rb gl cl ts s w) :
    Calls Tryz.prog 211 #[.pointer (some ⟨rb, 0, none⟩)] w fun e w' => e = .returned (.tuple #[]) ∧ RR rb gl cl ts (failQ ts s) w' ∧ PF rb w w' := by
  obtain ⟨⟨r0, r1, r2, r3⟩, rf⟩ := h.cells
  obtain ⟨c0, c1, c2, c3⟩ := h.wc s.i h.lt
  have hlt := h.lt
  have hnb := h.nb
  have H : Hid _ := h
  clear h
  cases hb : s.bad with
  | true =>
    rw [hb] at r2
    have HB : Hid _ := hb
    clear hb
    go_enter Tryz.func211, Tryz.ntmps211
    go_wp2
    go_end0
    refine ⟨rfl, ?_, (PF.refl _ _).set _ _⟩
    exact H.out.set (failQ ts s) 1 _ (by simp [failQ, HB.out]; omega) (by simp [failQ]; omega)
  | false =>
    rw [hb] at r2
    have HB : Hid _ := hb
    clear hb
    go_enter Tryz.func211, Tryz.ntmps211
    go_wp2
    have h1 := H.out.set { s with bad := true } 2 (.bool true) (by simp) hlt
    have F1 := (PF.refl rb w).set 2 (.bool true)
    clear r0 r1 r2 r3 rf c0 c1 c2 c3
    generalize w.setCell ⟨rb, 2, none⟩ (.bool true) = w1 at *
    obtain ⟨⟨r0, r1, r2, r3⟩, rf⟩ := h1.cells
    obtain ⟨c0, c1, c2, c3⟩ := h1.wc s.i hlt
    have rf3 := rf 3
    have hne := h1.ne
    have hne' := hne.symm
    have H1 : Hid _ := h1
    have HF : Hid _ := F1
    clear h1 F1
    generalize hp : (tokAt ts s.i).pl = tp at *
    have HP : Hid _ := hp
    clear hp
    simp only [] at r1 r2 r3
    have hkeep : (w1.setCell ⟨rb, 3, none⟩ (.int .i64 tp)).drew.cell? ⟨rb, 0, none⟩ = some (.slice (some ⟨gl, 0, none⟩) ts.length cl) ∧ (w1.setCell ⟨rb, 3, none⟩ (.int .i64 tp)).drew.cell? ⟨rb, 1, none⟩ = some (.int .i64 s.i) ∧ (w1.setCell ⟨rb, 3, none⟩ (.int .i64 tp)).drew.cell? ⟨gl, s.i * 4 + 1, none⟩ = some (.int .i64 tp) := by
      simp [go_sem, r0, r1, c1, hne, hne']
    go_region_held (fun w' => w'.cell? ⟨rb, 0, none⟩ = some (.slice (some ⟨gl, 0, none⟩) ts.length cl) ∧ w'.cell? ⟨rb, 1, none⟩ = some (.int .i64 s.i) ∧ w'.cell? ⟨gl, s.i * 4 + 1, none⟩ = some (.int .i64 tp)) (first | exact hkeep | go_keep) (fail)
    rename_i hHeld
    clear hHeld hkeep r0 r1 r2 r3 rf rf3 c0 c1 c2 c3
    have h2 := (H1.out.set { s with bad := true, pl := tp } 3 (.int .i64 tp) (by simp) hlt).drew
    have F2 := (HF.out.set 3 (.int .i64 tp)).drew
    clear H1 HF
    generalize (w1.setCell ⟨rb, 3, none⟩ (.int .i64 tp)).drew = w2 at *
    obtain ⟨⟨r0, r1, r2, r3⟩, rf⟩ := h2.cells
    have H2 : Hid _ := h2
    have HF : Hid _ := F2
    clear h2 F2
    go_wp2
    go_end0
    refine ⟨rfl, ?_, HF.out.set _ _⟩
    exact H2.out.set (failQ ts s) 1 _ (by simp [failQ, HB.out, HP.out]; omega) (by simp [failQ]; omega)
end Go.Proofs.YtfkdailfcmnjlaaGreatDoor

namespace Go.Proofs.YtfkdailfcmnjlaaGreatDoor
open Go Go.RowKit
set_option maxRecDepth 100000
attribute [local go_sem ↓] Go.wp_at_zero Go.wp_at_succ

set_option maxHeartbeats 1000000 in
theorem kindIndex_any (ks : List Nat) (v : Nat) (b : Nat) (w : World) (hl : ks.length ≤ 100)
    (hc : ∀ j, j < ks.length → w.cell? ⟨b, j, none⟩ = some (.int .i64 (ks.getD j 0))) :
    Calls Tryz.prog 245 #[.slice (some ⟨b, 0, none⟩) ks.length ks.length, .int .i64 v] w fun e w' => (∃ r : Int, e = .returned (.int .i64 r) ∧ -1 ≤ r ∧ r ≤ 1000 ∧ (decide (0 ≤ r) = ks.contains v)) ∧ w' = w := by
  have HC : Hid _ := hc
  clear hc
  go_enter Tryz.func245, Tryz.ntmps245
  go_wp2
  go_loop [8] (fun i => ∃ k : Nat, k ≤ ks.length ∧ i = .int .i64 k ∧ Hid (∀ q, q < k → ks.getD q 0 ≠ v)) (fun i => ks.length - (intOf i).toNat)
  case atStart => exact ⟨0, Nat.zero_le _, rfl, fun q hq => by omega⟩
  case round =>
    obtain ⟨k, hk, rfl, HQ⟩ := hrel
    by_cases hlt : k < ks.length
    · have hcell := HC.out k hlt
      have hmem : Hid (ks.getD k 0 ∈ ks) := by rw [List.getD_eq_getElem?_getD, List.getElem?_eq_getElem hlt]; exact List.getElem_mem hlt
      have HG : Hid (∀ x, ks.getD k 0 = x → ks.getD k 0 = x) := fun _ h => h
      generalize hx : ks.getD k 0 = x at hcell hmem
      have HX : Hid _ := hx
      clear hx HG
      by_cases hv : v = x
      · subst hv
        go_wp2
        go_ret
        refine ⟨⟨k, rfl, by omega, by omega, ?_⟩, rfl⟩
        simp [hmem.out]
      · have hv' : ¬ ((v : Int) = (x : Int)) := by omega
        have hv2 : ((v : Int) == (x : Int)) = false := by simpa using hv'
        have HV : Hid _ := hv
        clear hv
        go_wp2
        refine ⟨⟨k + 1, by omega, by go_num, fun q hq => ?_⟩, by simp [intOf]; omega⟩
        by_cases e : q = k
        · rw [e, HX.out]; exact fun e => HV.out e.symm
        · exact HQ.out q (by omega)
    · go_wp2
      go_ret
      refine ⟨⟨-1, rfl, by omega, by omega, ?_⟩, rfl⟩
      have hno : v ∉ ks := fun e => by
        obtain ⟨j, hj, hj2⟩ := List.mem_iff_getElem.1 e
        exact HQ.out j (by omega) (by rw [List.getD_eq_getElem?_getD, List.getElem?_eq_getElem hj]; exact hj2)
      simp [hno]
set_option maxHeartbeats 1000000 in
theorem contains_any (ks : List Nat) (v : Nat) (b : Nat) (w : World) (hl : ks.length ≤ 100)
    (hc : ∀ j, j < ks.length → w.cell? ⟨b, j, none⟩ = some (.int .i64 (ks.getD j 0))) :
    Calls Tryz.prog 210 #[.slice (some ⟨b, 0, none⟩) ks.length ks.length, .int .i64 v] w fun e w' => e = .returned (.bool (ks.contains v)) ∧ w' = w := by
  have HI := kindIndex_any ks v b w hl hc
  clear hc
  go_enter Tryz.func210, Tryz.ntmps210
  go_wp2_with fail
  refine HI.mono ?_
  rintro e w' ⟨⟨r, rfl, h1, h2, h3⟩, rfl⟩
  have H3 : Hid _ := h3
  clear HI h3
  go_wp2_with fail
  go_ret
  exact ⟨ret_bool H3.out, rfl⟩
end Go.Proofs.YtfkdailfcmnjlaaGreatDoor

namespace Go.Proofs.YtfkdailfcmnjlaaGreatDoor
open Go Go.RowKit
set_option maxRecDepth 100000
attribute [local go_sem ↓] Go.wp_at_zero Go.wp_at_succ

theorem RR.more {rb gl cl : Nat} {ts : List Tok} {s : Q} {w : World} (h : RR rb gl cl ts s w) (hk : kindOf (tokAt ts s.i) ≠ 0) : s.i + 1 < ts.length := by
  rcases Nat.lt_or_ge (s.i + 1) ts.length with h1 | h1
  · exact h1
  · have := h.lt
    have e : s.i = ts.length - 1 := by omega
    rw [e] at hk; exact absurd h.fin hk
/-- What 'want' answers, and the state behind it. -/
def wantV (ts : List Tok) (s : Q) (ks : List Nat) : Value := if ks.contains (kindOf (tokAt ts s.i)) then wordV (tokAt ts s.i) (tokAt ts s.i).pl else .agg #[.int .i64 0, .int .i64 0, .int .i64 0, S []]
def wantQ (ts : List Tok) (s : Q) (ks : List Nat) : Q := if ks.contains (kindOf (tokAt ts s.i)) then { s with i := s.i + 1 } else failQ ts s

set_option maxHeartbeats 2000000 in
theorem want_any {rb gl cl : Nat} {ts : List Tok} {s : Q} {w : World} (h : RR rb gl cl ts s w) (ks : List Nat) (b : Nat) (hl : ks.length ≤ 100) (h0 : 0 ∉ ks)
    (hc : ∀ j, j < ks.length → w.cell? ⟨b, j, none⟩ = some (.int .i64 (ks.getD j 0))) :
    Calls Tryz.prog 151 #[.pointer (some ⟨rb, 0, none⟩), .slice (some ⟨b, 0, none⟩) ks.length ks.length] w fun e w' => e = .returned (wantV ts s ks) ∧ RR rb gl cl ts (wantQ ts s ks) w' ∧ PF rb w w' := by
  have hnb := h.nb
  have h1 := h.alloc (.cells #[.int .i64 0, .int .i64 0, .int .i64 0, .string ⟨#[]⟩] 160)
  have hbox : (w.alloc (.cells #[.int .i64 0, .int .i64 0, .int .i64 0, .string ⟨#[]⟩] 160)).heap[w.heap.size]? = some (.cells #[.int .i64 0, .int .i64 0, .int .i64 0, .string ⟨#[]⟩] 160) := heap_alloc_new w _
  have hF : PF rb w (w.alloc (.cells #[.int .i64 0, .int .i64 0, .int .i64 0, .string ⟨#[]⟩] 160)) := (PF.refl rb w).alloc _
  have hc1 : ∀ j, j < ks.length → (w.alloc (.cells #[.int .i64 0, .int .i64 0, .int .i64 0, .string ⟨#[]⟩] 160)).cell? ⟨b, j, none⟩ = some (.int .i64 (ks.getD j 0)) := fun j hj => by
    rw [((Below.refl w.heap.size w).alloc (Nat.le_refl _) _).cell (p := ⟨b, j, none⟩) (World.block_lt_of_cell? w _ (hc j hj))]; exact hc j hj
  have hrl := h.rlt
  have hgl := h.glt
  have HC : Hid _ := hc1
  have H1 : Hid _ := h1
  have HF : Hid _ := hF
  have HX : Hid _ := hbox
  clear h hc hc1 h1 hF hbox
  go_enter Tryz.func151, Tryz.ntmps151
  go_wp2_with fail
  generalize w.alloc (.cells #[.int .i64 0, .int .i64 0, .int .i64 0, .string ⟨#[]⟩] 160) = w1 at *
  refine (kind_any H1.out).mono ?_
  rintro e w' ⟨rfl, rfl⟩
  have hk0 : Hid (ks.contains (kindOf (tokAt ts s.i)) = true → s.i + 1 < ts.length) := fun e => H1.out.more fun e2 => by rw [e2, List.contains_iff_mem] at e; exact h0 e
  have HQ : Hid (wantQ ts s ks = wantQ ts s ks) := rfl
  have HCC := contains_any ks (kindOf (tokAt ts s.i)) b w1.drew hl HC.out
  have HV : Hid (wantV ts s ks = if ks.contains (kindOf (tokAt ts s.i)) then wordV (tokAt ts s.i) (tokAt ts s.i).pl else .agg #[.int .i64 0, .int .i64 0, .int .i64 0, S []]) := rfl
  have HW : Hid (wantQ ts s ks = if ks.contains (kindOf (tokAt ts s.i)) then { s with i := s.i + 1 } else failQ ts s) := rfl
  have h2 := H1.out.drew
  have F2 := HF.out.drew
  have hy2 : w1.drew.heap[w.heap.size]? = some (wvObj 0 0 0 []) := HX.out
  have hl1 : w.heap.size < w1.drew.heap.size := lt_of_get hy2
  clear H1 HF HX HC HQ h0
  generalize w1.drew = w2 at *
  generalize hkd : kindOf (tokAt ts s.i) = kd at *
  have HKD : Hid _ := hkd
  clear hkd
  have e2 : w.heap.size ≠ rb := by omega
  have e4 : w.heap.size ≠ gl := by omega
  cases hct : ks.contains kd with
  | true =>
    have HT : Hid _ := hct
    have hmore := hk0.out hct
    have HI := take_any h2 hmore
    have HY : Hid _ := hy2
    have HE : Hid _ := F2
    unfold wordV at HI
    rw [hct] at HCC
    clear hct hy2 h2 F2
    go_wp2_with fail
    refine HCC.mono ?_
    rintro e w' ⟨rfl, rfl⟩
    go_wp2_with fail
    refine HI.mono ?_
    rintro e w3 ⟨rfl, h3, F3⟩
    have hy3 : w3.heap[w.heap.size]? = some (wvObj 0 0 0 []) := by rw [F3.block _ hl1 e2]; exact HY.out
    have HE3 : Hid _ := HE.out.trans F3
    have H3 : Hid _ := h3
    clear HI HCC HY HE h3 F3 hl1
    generalize hby : w.heap.size = bn at e2 e4 hy3 ⊢
    have HBY : Hid _ := hby
    clear hby
    obtain ⟨⟨y0, y1, y2, y3⟩, yf⟩ := wv_cells hy3
    clear hy3
    go_wp2_with fail
    have hbn : w.heap.size ≤ bn := Nat.le_of_eq HBY.out
    refine bodyPost_ret (v := .agg #[.int .i64 (kindOf (tokAt ts s.i)), .int .i64 (tokAt ts s.i).pl, .int .i64 (nmOf (tokAt ts s.i)), S (ownOf (tokAt ts s.i))]) (by simp [results, Tryz.results151, go_sem, y0, y1, y2, y3, yf]) rfl ⟨?_, ?_, ?_⟩
    · rw [HV.out, HT.out]; rfl
    · rw [HW.out, HT.out]
      exact ((((H3.out.other e2 e4 _ _).other e2 e4 _ _).other e2 e4 _ _).other e2 e4 _ _)
    · exact ((((HE3.out.new hbn _ _).new hbn _ _).new hbn _ _).new hbn _ _)
  | false =>
    have HT : Hid _ := hct
    have HI := fail_any h2
    have HY : Hid _ := hy2
    have HE : Hid _ := F2
    rw [hct] at HCC
    clear hct hy2 h2 F2
    go_wp2_with fail
    refine HCC.mono ?_
    rintro e w' ⟨rfl, rfl⟩
    go_wp2_with fail
    refine HI.mono ?_
    rintro e w3 ⟨rfl, h3, F3⟩
    have hy3 : w3.heap[w.heap.size]? = some (wvObj 0 0 0 []) := by rw [F3.block _ hl1 e2]; exact HY.out
    have HE3 : Hid _ := HE.out.trans F3
    have H3 : Hid _ := h3
    clear HI HCC HY HE h3 F3 hl1
    generalize hby : w.heap.size = bn at e2 e4 hy3 ⊢
    have HBY : Hid _ := hby
    clear hby
    obtain ⟨⟨y0, y1, y2, y3⟩, yf⟩ := wv_cells hy3
    clear hy3
    go_wp2_with fail
    have hbn : w.heap.size ≤ bn := Nat.le_of_eq HBY.out
    refine bodyPost_ret (v := .agg #[.int .i64 0, .int .i64 0, .int .i64 0, S []]) (by simp [results, Tryz.results151, go_sem, y0, y1, y2, y3, yf]) rfl ⟨?_, ?_, ?_⟩
    · rw [HV.out, HT.out]; rfl
    · rw [HW.out, HT.out]
      exact ((((H3.out.other e2 e4 _ _).other e2 e4 _ _).other e2 e4 _ _).other e2 e4 _ _)
    · exact ((((HE3.out.new hbn _ _).new hbn _ _).new hbn _ _).new hbn _ _)
end Go.Proofs.YtfkdailfcmnjlaaGreatDoor

namespace Go.Proofs.YtfkdailfcmnjlaaGreatDoor
open Go Go.RowKit
set_option maxRecDepth 100000

/-- What the lexer makes. -/
def TokW (t : Tok) : Prop := t.k = 110 ∨ t.k = 111 ∨ t.k = 101 ∨ (t.k = 107 ∧ t.text ∈ spell.drop 11) ∨ (t.k = 115 ∧ t.text ∈ (spell.drop 3).take 8)

theorem kw_mem {x : List UInt8} (h : x ∈ spell.drop 11) : x ∈ spell.drop 3 := by
  rw [show spell.drop 11 = (spell.drop 3).drop 8 from by simp] at h
  exact List.mem_of_mem_drop h
theorem TokW.cases {t : Tok} (h : TokW t) : t.k = 110 ∨ t.k = 111 ∨ t.k = 101 ∨ ((t.k = 107 ∨ t.k = 115) ∧ t.text ∈ spell.drop 3) := by
  rcases h with h | h | h | ⟨h, hm⟩ | ⟨h, hm⟩
  · exact .inl h
  · exact .inr (.inl h)
  · exact .inr (.inr (.inl h))
  · exact .inr (.inr (.inr ⟨.inl h, kw_mem hm⟩))
  · exact .inr (.inr (.inr ⟨.inr h, List.mem_of_mem_take hm⟩))
theorem spell_idx : ∀ x ∈ spell.drop 3, ∀ y ∈ spell.drop 3, (idx spell x).toNat = (idx spell y).toNat → x = y := by decide
theorem spell_big : ∀ x ∈ spell.drop 3, 3 ≤ (idx spell x).toNat := by decide

/-- The number of a keyword or sign. -/
def kn (x : List UInt8) : Nat := (idx spell x).toNat
theorem kind_word {t : Tok} (h : (t.k = 107 ∨ t.k = 115)) : kindOf t = kn t.text := by
  unfold kindOf kn; rw [if_neg (by omega), if_neg (by omega), if_neg (by omega)]
theorem isW_iff {t : Tok} (h : TokW t) {x : List UInt8} (hx : x ∈ spell.drop 3) : isW t x = true ↔ kindOf t = kn x := by
  have hb := spell_big x hx
  unfold isW
  rcases h.cases with h | h | h | ⟨h, hm⟩
  · unfold kindOf; rw [if_pos h, h]; simp [kn]; omega
  · unfold kindOf; rw [if_neg (by omega), if_pos h, h]; simp [kn]; omega
  · unfold kindOf; rw [if_neg (by omega), if_neg (by omega), if_pos h, h]; simp [kn]; omega
  · rw [kind_word h]
    simp only [Bool.and_eq_true, Bool.or_eq_true, beq_iff_eq]
    constructor
    · rintro ⟨_, e⟩; rw [e]
    · intro e; exact ⟨h, spell_idx _ hm _ hx e⟩

theorem lex_tokW (l : List UInt8) (a : Nat) (ha : a < l.length) (t : Tok) (h : wordAt l a = some t) : TokW t := by
  unfold wordAt at h
  split at h
  · split at h
    · simp at h
    · simp at h; subst h; exact .inl rfl
  · split at h
    · split at h
      · rename_i hk
        simp at h; subst h
        exact .inr (.inr (.inr (.inl ⟨rfl, (isKw_iff _).1 hk⟩)))
      · split at h
        · simp at h; subst h; exact .inr (.inl rfl)
        · simp at h
    · rw [List.getElem?_eq_getElem ha] at h
      simp only at h
      split at h
      · split at h
        · simp at h; subst h; exact .inr (.inr (.inr (.inr ⟨rfl, show [60, 61] ∈ (spell.drop 3).take 8 from by decide⟩)))
        · simp at h; subst h; exact .inr (.inr (.inr (.inr ⟨rfl, show [60] ∈ (spell.drop 3).take 8 from by decide⟩)))
      · split at h
        · rename_i hc
          simp at h; subst h
          refine .inr (.inr (.inr (.inr ⟨rfl, ?_⟩)))
          have hx : ∀ c : UInt8, (c.toNat = 40 ∨ c.toNat = 41 ∨ c.toNat = 59 ∨ c.toNat = 43 ∨ c.toNat = 45 ∨ c.toNat = 61) → [c] ∈ (spell.drop 3).take 8 := by
            intro c hc
            rcases hc with hc | hc | hc | hc | hc | hc <;> (rw [toNat_eq _ _ (by omega)] at hc; subst hc; decide)
          exact hx _ hc
        · simp at h

/-- Does a kind stand alone? -/
def standsK (k : Nat) : Bool := decide (k = 1) || decide (k = 2) || (decide (20 ≤ k) && decide (k ≤ 35))
theorem stands_texts : ∀ x ∈ spell.drop 11, (decide (0 ≤ idx kMembers x) || decide (0 ≤ idx kFields x) || x == wTrue || x == wFalse) = standsK (kn x) := by decide
theorem stands_signs : ∀ x ∈ (spell.drop 3).take 8, standsK (kn x) = false := by decide

theorem alone_iff {t : Tok} (h : TokW t) : alone t = standsK (kindOf t) := by
  unfold alone
  rcases h with h | h | h | ⟨h, hm⟩ | ⟨h, hm⟩
  · unfold kindOf; rw [if_pos h, h]; rfl
  · unfold kindOf; rw [if_neg (by omega), if_pos h, h]; rfl
  · unfold kindOf; rw [if_neg (by omega), if_neg (by omega), if_pos h, h]; rfl
  · rw [kind_word (.inl h), ← stands_texts _ hm, h]; simp
  · rw [kind_word (.inr h), stands_signs _ hm, h]; rfl
set_option maxHeartbeats 400000 in
theorem standsAlone_any (k : Nat) (w : World) (hk : k ≤ 100) : Calls Tryz.prog 287 #[.int .i64 k] w fun e w' => e = .returned (.bool (standsK k)) ∧ w' = w := by
  have HE : Hid (standsK k = (decide (k = 1) || decide (k = 2) || (decide (20 ≤ k) && decide (k ≤ 35)))) := rfl
  go_enter Tryz.func287, Tryz.ntmps287
  go_wp2
  all_goals go_ret
  all_goals refine ⟨ret_bool ?_, rfl⟩
  all_goals rw [HE.out, Bool.eq_iff_iff]
  all_goals simp
  all_goals try simp at *
  all_goals omega
end Go.Proofs.YtfkdailfcmnjlaaGreatDoor
