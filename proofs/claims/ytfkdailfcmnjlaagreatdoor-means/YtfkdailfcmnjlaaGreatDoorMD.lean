/-
  The program's items, limits, names and types, and its function Read, answer as the plain functions do.
-/
import Derived.Test.YtfkdailfcmnjlaaGreatDoorMC
import Derived.Deep.RegionHeld3
import Derived.Deep.OwnRows
set_option linter.unusedVariables false
set_option linter.unusedSimpArgs false
namespace Go.Proofs.YtfkdailfcmnjlaaGreatDoor
open Go Go.RowKit
set_option maxRecDepth 100000

/-- A state that may have failed at a word. -/
def Stp (ts : List Tok) (s : Q) (ok : Bool) (j : Nat) : Q := if ok then { s with i := j } else failQ ts { s with i := j }
theorem Stp_ok (ts : List Tok) (s : Q) (j : Nat) : Stp ts s true j = { s with i := j } := rfl
theorem Stp_no (ts : List Tok) (s : Q) (j : Nat) : Stp ts s false j = failQ ts { s with i := j } := rfl
theorem Stp_here (ts : List Tok) (s : Q) : Stp ts s true s.i = s := rfl
/-- Does a word of one of these kinds follow? -/
def sees (ts : List Tok) (ks : List Nat) (j : Nat) : Bool := ks.contains (kindOf (tokAt ts j))
def nextI (b : Bool) (j : Nat) : Nat := if b then j + 1 else j

theorem wantQ_stp {rb gl cl : Nat} {ts : List Tok} {s : Q} {ok : Bool} {j : Nat} {w : World} (h : RR rb gl cl ts (Stp ts s ok j) w) (ks : List Nat) (h0 : 0 ∉ ks) :
    wantQ ts (Stp ts s ok j) ks = Stp ts s (ok && sees ts ks j) (nextI (ok && sees ts ks j) j) := by
  cases ok with
  | true =>
    rw [Bool.true_and, Stp_ok] at *
    cases hs : sees ts ks j with
    | true => rw [wantQ_yes (by exact hs)]; rfl
    | false => rw [wantQ_no (by exact hs)]; rfl
  | false =>
    rw [Bool.false_and, Stp_no] at *
    rw [wantQ_no (by
      rw [end_kind h rfl, Bool.eq_false_iff]; intro e; rw [List.contains_iff_mem] at e; exact h0 e), failQ_twice]
    rfl
/-- What 'want' answers from such a state. -/
def wantW (ts : List Tok) (ok : Bool) (j : Nat) (ks : List Nat) : Value := if ok && sees ts ks j then wordV (tokAt ts j) (tokAt ts j).pl else .agg #[.int .i64 0, .int .i64 0, .int .i64 0, S []]
theorem wantV_stp {rb gl cl : Nat} {ts : List Tok} {s : Q} {ok : Bool} {j : Nat} {w : World} (h : RR rb gl cl ts (Stp ts s ok j) w) (ks : List Nat) (h0 : 0 ∉ ks) :
    wantV ts (Stp ts s ok j) ks = wantW ts ok j ks := by
  unfold wantV wantW
  cases ok with
  | true => rw [Bool.true_and, Stp_ok]; rfl
  | false =>
    rw [Stp_no] at *
    rw [if_neg (by rw [end_kind h rfl]; intro e; rw [List.contains_iff_mem] at e; exact h0 e)]
    simp
theorem want_stp {rb gl cl : Nat} {ts : List Tok} {s : Q} {ok : Bool} {j : Nat} {w : World} (h : RR rb gl cl ts (Stp ts s ok j) w) (ks : List Nat) (hl : ks.length ≤ 100) (h0 : 0 ∉ ks) :
    Calls Tryz.prog 151 #[.pointer (some ⟨rb, 0, none⟩), .slice (some ⟨w.heap.size, 0, none⟩) ks.length ks.length] (w.alloc (ksObj ks)) fun e w' => e = .returned (wantW ts ok j ks) ∧ RR rb gl cl ts (Stp ts s (ok && sees ts ks j) (nextI (ok && sees ts ks j) j)) w' ∧ PF rb w w' := by
  rw [← wantV_stp h ks h0, ← wantQ_stp h ks h0]; exact want_new h ks hl h0

/-- A condition from such a state. -/
theorem cond_stp {f rb gl cl : Nat} {ts : List Tok} {s : Q} {ok : Bool} {j : Nat} {w : World} {L : List Pt} {a : Rd} (hf : FormOK f 152 6 rb gl cl ts) (hgood : s.bad = false) (h : RR rb gl cl ts (Stp ts s ok j) w) (hP : ok = true → P f 6 ts j L 0 = some a) :
    Calls Tryz.prog 152 #[.pointer (some ⟨rb, 0, none⟩)] w fun e w' => ∃ b, e = .returned (.pointer (some ⟨b, 0, none⟩)) ∧ PF rb w w' ∧ RR rb gl cl ts (Stp ts s (ok && a.ok) (if ok then a.i else j)) w' ∧ ((ok && a.ok) = true → CondAt a.L rb w' a.top b) := by
  cases ok with
  | true =>
    rw [Stp_ok] at h
    refine (hf f (Nat.le_refl _) _ w L a h hgood (hP rfl)).mono ?_
    rintro e w' ⟨b, h1, h2, h3⟩
    refine ⟨b, h1, h2, ?_⟩
    rcases h3 with ⟨ok, h3, h4⟩ | ⟨ok, h3⟩
    · rw [ok]; exact ⟨h3, fun _ => h4⟩
    · rw [ok]; exact ⟨h3, fun e => by simp at e⟩
  | false =>
    rw [Stp_no] at h
    refine (condition_end _ w h rfl rfl).mono ?_
    rintro e w' ⟨b, h1, h2, h3⟩
    exact ⟨b, h1, h2, h3, fun e => by simp at e⟩
end Go.Proofs.YtfkdailfcmnjlaaGreatDoor

namespace Go.Proofs.YtfkdailfcmnjlaaGreatDoor
open Go Go.RowKit
set_option maxRecDepth 100000

/-- The type of a word that stands alone, by its kind. -/
def wordK (k : Nat) : Nat := if k = 1 ∨ (27 ≤ k ∧ k ≤ 30) then 1 else if k = 20 ∨ k = 21 ∨ k = 34 ∨ k = 35 then 2 else if (22 ≤ k ∧ k ≤ 26) ∨ (31 ≤ k ∧ k ≤ 33) then 3 else 0
def ifAllK (us : List Nat) (want give : Nat) : Nat := if us.all (fun u => u == want) then give else 0
/-- The type over parts of types. -/
def overK (k : Nat) (us : List Nat) : Nat :=
  if k = 6 ∨ k = 7 then ifAllK us 1 1 else if k = 10 ∨ k = 9 then ifAllK us 1 2 else if k = 8 then ifAllK us (us.getD 0 0) 2
  else if k = 17 ∨ k = 18 ∨ k = 19 then ifAllK us 2 2
  else if k = 14 then (if us.getD 0 0 = 2 then ifAllK (us.drop 1) (us.getD 1 0) (us.getD 1 0) else 0) else 0

abbrev isTy (c : UInt8) : Prop := c = 110 ∨ c = 116 ∨ c = 109
theorem isTy_mem {c : UInt8} (h : isTy c) : c ∈ ([110, 116, 109] : List UInt8) := by
  rcases h with rfl | rfl | rfl <;> decide
theorem tcode_zero {c : UInt8} (h : c = 0 ∨ isTy c) : tcode c = 0 ↔ c = 0 := by
  rcases h with rfl | rfl | rfl | rfl <;> decide
/-- The type by the text alone. -/
def tyT (x s : List UInt8) : UInt8 := UInt8.ofNat (tyCase [] [] ⟨107, x, 0⟩ s)
theorem tyT_eq (xs : List Itm) (its : List UInt8) {t : Tok} (h1 : t.k ≠ 110) (h2 : t.k ≠ 111) (s : List UInt8) : UInt8.ofNat (tyCase xs its t s) = tyT t.text s := by
  unfold tyT tyCase
  rw [if_neg h1, if_neg h2]
  simp only []
  rw [if_neg (show ¬ (107 : Nat) = 110 by decide), if_neg (show ¬ (107 : Nat) = 111 by decide)]
theorem leaf_ty : ∀ x ∈ spell.drop 11, (decide (0 ≤ idx kMembers x) || decide (0 ≤ idx kFields x) || x == wTrue || x == wFalse) = true → tcode (tyT x []) = wordK (kn x) ∧ isTy (tyT x []) := by decide
theorem over2_ty : ∀ x ∈ ([[43], [45], [60], [60, 61], [61], [111, 114], [97, 110, 100]] : List (List UInt8)), ∀ a ∈ ([110, 116, 109] : List UInt8), ∀ b ∈ ([110, 116, 109] : List UInt8), tcode (tyT x [a, b]) = overK (kn x) [tcode a, tcode b] ∧ (tyT x [a, b] = 0 ∨ isTy (tyT x [a, b])) := by decide
theorem over1_ty : ∀ a ∈ ([110, 116, 109] : List UInt8), tcode (tyT wNot [a]) = overK (kn wNot) [tcode a] ∧ (tyT wNot [a] = 0 ∨ isTy (tyT wNot [a])) := by decide
theorem over3_ty : ∀ a ∈ ([110, 116, 109] : List UInt8), ∀ b ∈ ([110, 116, 109] : List UInt8), ∀ c ∈ ([110, 116, 109] : List UInt8), tcode (tyT wIf [a, b, c]) = overK (kn wIf) [tcode a, tcode b, tcode c] ∧ (tyT wIf [a, b, c] = 0 ∨ isTy (tyT wIf [a, b, c])) := by decide
theorem len_two {l : List Nat} (h : l.length = 2) : ∃ a b, l = [a, b] := by
  match l, h with
  | [a, b], _ => exact ⟨a, b, rfl⟩
theorem len_three {l : List Nat} (h : l.length = 3) : ∃ a b c, l = [a, b, c] := by
  match l, h with
  | [a, b, c], _ => exact ⟨a, b, c, rfl⟩
theorem joins_text {n : Nat} {t : Tok} (h : joins n t = true) : t.text ∈ ([[43], [45], [60], [60, 61], [61], [111, 114], [97, 110, 100]] : List (List UInt8)) ∧ (t.k = 107 ∨ t.k = 115) := by
  unfold joins at h
  simp only [Bool.and_eq_true, decide_eq_true_eq, Bool.or_eq_true, beq_iff_eq] at h
  refine ⟨?_, h.2⟩
  have hm := idx_mem h.1
  unfold signsOf at hm
  split at hm
  · simp at hm; rw [hm]; decide
  · split at hm
    · simp at hm; rw [hm]; decide
    · split at hm
      · simp at hm; rcases hm with hm | hm | hm <;> rw [hm] <;> decide
      · simp at hm; rcases hm with hm | hm <;> rw [hm] <;> decide
theorem isW_text {t : Tok} {x : List UInt8} (h : isW t x = true) : t.text = x ∧ (t.k = 107 ∨ t.k = 115) := by
  unfold isW at h; simp at h; exact ⟨h.2, h.1⟩

/-- What the types under a part make of it: the program's way. -/
theorem ty_leaf (xs : List Itm) (its : List UInt8) {t : Tok} (ht : TokW t) (ha : alone t = true) (ho : t.k ≠ 111) : tcode (UInt8.ofNat (tyCase xs its t [])) = wordK (kindOf t) ∧ isTy (UInt8.ofNat (tyCase xs its t [])) := by
  rcases ht with h | h | h | ⟨h, hm⟩ | ⟨h, hm⟩
  · have e : tyCase xs its t [] = 110 := by unfold tyCase; rw [if_pos h]
    rw [e]; unfold kindOf; rw [if_pos h]; decide
  · exact absurd h ho
  · rw [alone, h] at ha; simp at ha
  · have hx : (decide (0 ≤ idx kMembers t.text) || decide (0 ≤ idx kFields t.text) || t.text == wTrue || t.text == wFalse) = true := by
      rw [alone, h] at ha; simpa using ha
    rw [tyT_eq xs its (by omega) (by omega), kind_word (.inl h)]
    exact leaf_ty _ hm hx
  · rw [alone, h] at ha; simp at ha
theorem ty_over {xs : List Itm} {its : List UInt8} {p : Pt} (hs : Shape p) (hn : p.subs ≠ []) {F : Nat → UInt8} (hF : ∀ j ∈ p.subs, isTy (F j)) :
    tcode (UInt8.ofNat (tyCase xs its p.tok (p.subs.map F))) = overK (kindOf p.tok) (p.subs.map fun j => tcode (F j)) ∧ (UInt8.ofNat (tyCase xs its p.tok (p.subs.map F)) = 0 ∨ isTy (UInt8.ofNat (tyCase xs its p.tok (p.subs.map F)))) := by
  rcases hs with ⟨_, h⟩ | ⟨h, hl⟩ | ⟨h, hl⟩ | ⟨n, _, h, hl⟩
  · exact absurd h hn
  · obtain ⟨e, hk⟩ := isW_text h
    obtain ⟨a, ea⟩ : ∃ a, p.subs = [a] := List.length_eq_one_iff.1 hl
    rw [tyT_eq xs its (by omega) (by omega), kind_word hk, e, ea]
    exact over1_ty _ (isTy_mem (hF a (by simp [ea])))
  · obtain ⟨e, hk⟩ := isW_text h
    obtain ⟨a, b, c, ea⟩ : ∃ a b c, p.subs = [a, b, c] := len_three hl
    rw [tyT_eq xs its (by omega) (by omega), kind_word hk, e, ea]
    exact over3_ty _ (isTy_mem (hF a (by simp [ea]))) _ (isTy_mem (hF b (by simp [ea]))) _ (isTy_mem (hF c (by simp [ea])))
  · obtain ⟨e, hk⟩ := joins_text h
    obtain ⟨a, b, ea⟩ : ∃ a b, p.subs = [a, b] := len_two hl
    rw [tyT_eq xs its (by omega) (by omega), kind_word hk, ea]
    exact over2_ty _ e _ (isTy_mem (hF a (by simp [ea]))) _ (isTy_mem (hF b (by simp [ea])))

/-- Every own name of some parts has a let among the first items. -/
def Given (xs : List Itm) (n : Nat) (L : List Pt) (lo hi : Nat) : Prop := ∀ q, lo ≤ q → q < hi → (L.getD q noPt).tok.k = 111 → (L.getD q noPt).tok.text ≠ [] ∧ 0 ≤ letIx xs (L.getD q noPt).tok.text n

theorem forest_bounds {f : Nat} {L : List Pt} (js : List Nat) : ∀ {lo hi}, Forest (TreeF f L) lo js hi → ∀ j ∈ js, ∃ lo', lo ≤ lo' ∧ j < hi ∧ TreeF f L lo' j := by
  induction js with
  | nil => intro lo hi _ j hj; simp at hj
  | cons x js ih =>
    intro lo hi h j hj
    have h1 := h.1.le
    have h2 := forest_le (T := TreeF f L) (fun lo j hj => hj.le) js h.2
    simp at hj
    rcases hj with rfl | hj
    · exact ⟨lo, Nat.le_refl _, by omega, h.1⟩
    · obtain ⟨lo', a, b, c⟩ := ih h.2 j hj
      exact ⟨lo', by omega, b, c⟩

theorem letIx_its {xs : List Itm} {its : List UInt8} (hi : ∀ c ∈ its, isTy c) (s : List UInt8) (h0 : 0 ≤ letIx xs s its.length) : isTy (its.getD (letIx xs s its.length).toNat 0) := by
  have h1 := (letIx_lt xs s its.length).1
  have h2 : (letIx xs s its.length).toNat < its.length := by omega
  rw [List.getD_eq_getElem?_getD, List.getElem?_eq_getElem h2]
  exact hi _ (List.getElem_mem h2)

theorem tyOf_ty {xs : List Itm} {its : List UInt8} {L : List Pt} (hW : ∀ k, k < L.length → TokW (L.getD k noPt).tok) (hi : ∀ c ∈ its, isTy c) (f : Nat) : ∀ {lo i : Nat}, TreeF f L lo i → Given xs its.length L lo (i + 1) → tyOf xs its L f i = 0 ∨ isTy (tyOf xs its L f i) := by
  induction f with
  | zero => intro lo i h; exact h.elim
  | succ f ih =>
    intro lo i h hg
    rw [tyOf]
    split
    · exact .inl rfl
    · rename_i hc
      by_cases ho : (L.getD i noPt).tok.k = 111
      · right
        have := letIx_its hi _ (hg i h.le (by omega) ho).2
        have e : tyCase xs its (L.getD i noPt).tok ((L.getD i noPt).subs.map (tyOf xs its L f)) = (its.getD (letIx xs (L.getD i noPt).tok.text its.length).toNat 0).toNat := by
          unfold tyCase; rw [if_neg (by omega), if_pos ho]
        rw [e, UInt8.ofNat_toNat]; exact this
      · by_cases hs : (L.getD i noPt).subs = []
        · rw [hs]
          have ha : alone (L.getD i noPt).tok = true := by
            rcases h.2.1 with ⟨h1, _⟩ | ⟨_, h1⟩ | ⟨_, h1⟩ | ⟨n, _, _, h1⟩
            · exact h1
            all_goals (rw [hs] at h1; simp at h1)
          exact .inr (ty_leaf xs its (hW i h.1) ha ho).2
        · refine (ty_over h.2.1 hs fun j hj => ?_).2
          obtain ⟨lo', a, b, c⟩ := forest_bounds _ h.2.2 j hj
          rcases ih c (fun q h1 h2 => hg q (by omega) (by omega)) with h0 | h0
          · exact absurd (by rw [List.contains_iff_mem, ← h0]; exact List.mem_map_of_mem hj) hc
          · exact h0
end Go.Proofs.YtfkdailfcmnjlaaGreatDoor

namespace Go.Proofs.YtfkdailfcmnjlaaGreatDoor
open Go Go.RowKit
set_option maxRecDepth 100000
attribute [local go_sem ↓] Go.wp_at_zero Go.wp_at_succ

/-- No word. -/
def zTok : Tok := ⟨101, [], 0⟩
/-- The word that 'want' gives. -/
def wantT (ts : List Tok) (ok : Bool) (j : Nat) (ks : List Nat) : Tok := if ok && sees ts ks j then tokAt ts j else zTok
theorem wantW_tok (ts : List Tok) (ok : Bool) (j : Nat) (ks : List Nat) : wantW ts ok j ks = .agg #[.int .i64 (kindOf (wantT ts ok j ks)), .int .i64 (wantT ts ok j ks).pl, .int .i64 (nmOf (wantT ts ok j ks)), S (ownOf (wantT ts ok j ks))] := by
  unfold wantW wantT
  split
  · rfl
  · rfl
/-- An item's value. -/
def itV (t u : Tok) (b : Nat) : Value := .agg #[.int .i64 (kindOf t), .int .i64 t.pl, .int .i64 (nmOf t), S (ownOf t), .int .i64 (kindOf u), .int .i64 u.pl, .int .i64 (nmOf u), S (ownOf u), .int .i64 0, .pointer (some ⟨b, 0, none⟩)]

/-- An item's value, with its number. -/
def itW (t u : Tok) (n : Int) (b : Nat) : Value := .agg #[.int .i64 (kindOf t), .int .i64 t.pl, .int .i64 (nmOf t), S (ownOf t), .int .i64 (kindOf u), .int .i64 u.pl, .int .i64 (nmOf u), S (ownOf u), .int .i64 n, .pointer (some ⟨b, 0, none⟩)]
/-- An item's block, with its number. -/
def itObjW (t u : Tok) (n : Int) (v : Value) : Obj := .cells #[.int .i64 (kindOf t), .int .i64 t.pl, .int .i64 (nmOf t), S (ownOf t), .int .i64 (kindOf u), .int .i64 u.pl, .int .i64 (nmOf u), S (ownOf u), .int .i64 n, v] 163 (0, 0)

/-- An item's block. -/
def itObj (t u : Tok) (v : Value) : Obj := .cells #[.int .i64 (kindOf t), .int .i64 t.pl, .int .i64 (nmOf t), S (ownOf t), .int .i64 (kindOf u), .int .i64 u.pl, .int .i64 (nmOf u), S (ownOf u), .int .i64 0, v] 163 (0, 0)
theorem it_cells {w : World} {b : Nat} {x0 x1 x2 x3 x4 x5 x6 x7 x8 x9 : Value} (h : w.heap[b]? = some (.cells #[x0, x1, x2, x3, x4, x5, x6, x7, x8, x9] 163 (0, 0))) : (w.cell? ⟨b, 0, none⟩ = some x0 ∧ w.cell? ⟨b, 1, none⟩ = some x1 ∧ w.cell? ⟨b, 2, none⟩ = some x2 ∧ w.cell? ⟨b, 3, none⟩ = some x3 ∧ w.cell? ⟨b, 4, none⟩ = some x4 ∧ w.cell? ⟨b, 5, none⟩ = some x5 ∧ w.cell? ⟨b, 6, none⟩ = some x6 ∧ w.cell? ⟨b, 7, none⟩ = some x7 ∧ w.cell? ⟨b, 8, none⟩ = some x8 ∧ w.cell? ⟨b, 9, none⟩ = some x9) ∧ ∀ j, w.frozen? ⟨b, j, none⟩ = false := by
  have hc := fun j => cell_of_row w b j _ _ _ h
  exact ⟨⟨hc 0, hc 1, hc 2, hc 3, hc 4, hc 5, hc 6, hc 7, hc 8, hc 9⟩, fun j => by simp [World.frozen?, h]⟩
/-- The tree stays where a block of items is written. -/
theorem CondAt.item {L : List Pt} {lt : Nat} {w : World} {i b : Nat} (h : CondAt L lt w i b) {x : Nat} {cs : Array Value} (hx : w.heap[x]? = some (.cells cs 163 (0, 0))) (j : Nat) (v : Value) : CondAt L lt (w.setCell ⟨x, j, none⟩ v) i b :=
  h.keep fun k cs' ty hk ht => Below.heap_setCell _ _ _ _ (by
    simp only
    intro e
    rw [e, hx] at hk
    simp only [Option.some.injEq, Obj.cells.injEq] at hk
    rw [← hk.2.1] at ht
    exact absurd ht (by decide))
theorem item_set {w : World} {x : Nat} {cs : Array Value} (hx : w.heap[x]? = some (.cells cs 163 (0, 0))) (j : Nat) (v : Value) : (w.setCell ⟨x, j, none⟩ v).heap[x]? = some (.cells (cs.setIfInBounds j v) 163 (0, 0)) := by
  rw [heap_setCell_same w x j _ _ v hx]
theorem pitem_far {w : World} {x y : Nat} (h : y ≠ x) (j : Nat) (v : Value) : (w.setCell ⟨x, j, none⟩ v).heap[y]? = w.heap[y]? := Below.heap_setCell _ _ _ _ (by simpa using h)

set_option maxHeartbeats 4000000 in
theorem pitem_let {f rb gl cl : Nat} {ts : List Tok} {s : Q} {w : World} (hf : FormOK f 152 6 rb gl cl ts) (h : RR rb gl cl ts s w) (hgood : s.bad = false) (hk : kindOf (tokAt ts s.i) = 11) {ok2 ok3 : Bool} {j2 j3 : Nat} (e2 : ok2 = sees ts [2] (s.i + 1)) (e3 : j2 = nextI ok2 (s.i + 1)) (e4 : ok3 = (ok2 && sees ts [8] j2)) (e5 : j3 = nextI ok3 j2) {L : List Pt} {a : Rd}
    (hP : ok3 = true → P f 6 ts j3 L 0 = some a) {ok4 ok5 : Bool} {j4 j5 : Nat} (e6 : j4 = if ok3 then a.i else j3) (e7 : ok4 = (ok3 && a.ok)) (e8 : ok5 = (ok4 && sees ts [5] j4)) (e9 : j5 = nextI ok5 j4) :
    Calls Tryz.prog 104 #[.pointer (some ⟨rb, 0, none⟩)] w fun e w' => ∃ b, e = .returned (itV (tokAt ts s.i) (wantT ts true (s.i + 1) [2]) b) ∧ PF rb w w' ∧ RR rb gl cl ts (Stp ts s ok5 j5) w' ∧ (ok4 = true → CondAt a.L rb w' a.top b) := by
  have hs0 : sees ts [11, 12, 13] s.i = true := by unfold sees; rw [hk]; rfl
  have h0 : RR rb gl cl ts (Stp ts s true s.i) (w.alloc (itObj zTok zTok (.pointer none))) := h.alloc _
  have hr0 : (w.alloc (itObj zTok zTok (.pointer none))).heap[w.heap.size]? = some (itObj zTok zTok (.pointer none)) := heap_alloc_new w _
  have F0 : PF rb w (w.alloc (itObj zTok zTok (.pointer none))) := (PF.refl rb w).alloc _
  have hrl := h.rlt
  have hgl := h.glt
  have W1 := want_stp h0 [11, 12, 13] (by decide) (by decide)
  rw [wantW_tok] at W1
  have et : wantT ts true s.i [11, 12, 13] = tokAt ts s.i := by unfold wantT; rw [hs0]; rfl
  rw [et, hs0] at W1
  simp only [Bool.and_self, show nextI true s.i = s.i + 1 from rfl] at W1
  have HE2 : Hid _ := e2
  have HE3 : Hid _ := e3
  have HE4 : Hid _ := e4
  have HE5 : Hid _ := e5
  have HP : Hid _ := hP
  have HR0 : Hid _ := hr0
  have HG : Hid _ := hgood
  have HF0 : Hid _ := F0
  have HIT : Hid (∀ t u v, itObj t u v = .cells #[.int .i64 (kindOf t), .int .i64 t.pl, .int .i64 (nmOf t), S (ownOf t), .int .i64 (kindOf u), .int .i64 u.pl, .int .i64 (nmOf u), S (ownOf u), .int .i64 0, v] 163 (0, 0)) := fun _ _ _ => rfl
  have HE6 : Hid _ := e6
  have HE7 : Hid _ := e7
  have HE8 : Hid _ := e8
  have HE9 : Hid _ := e9
  clear e6 e7 e8 e9 e2 e3 e4 e5 hP hr0 hgood h h0 hs0 F0
  have hsz : (w.alloc (itObj zTok zTok (.pointer none))).heap.size = w.heap.size + 1 := by simp
  have HV : Hid (∀ b, itV (tokAt ts s.i) (wantT ts true (s.i + 1) [2]) b = .agg #[.int .i64 (kindOf (tokAt ts s.i)), .int .i64 (tokAt ts s.i).pl, .int .i64 (nmOf (tokAt ts s.i)), S (ownOf (tokAt ts s.i)), .int .i64 (kindOf (wantT ts true (s.i + 1) [2])), .int .i64 (wantT ts true (s.i + 1) [2]).pl, .int .i64 (nmOf (wantT ts true (s.i + 1) [2])), S (ownOf (wantT ts true (s.i + 1) [2])), .int .i64 0, .pointer (some ⟨b, 0, none⟩)]) := fun _ => rfl
  generalize itV (tokAt ts s.i) (wantT ts true (s.i + 1) [2]) = iv at HV ⊢
  go_enter Tryz.func104, Tryz.ntmps104
  go_wp2_with fail
  rw [hsz] at W1
  refine W1.mono ?_
  rintro e w1 ⟨rfl, h1, F1⟩
  clear W1
  have hx1 : w1.heap[w.heap.size]? = some (itObj zTok zTok (.pointer none)) := by rw [F1.block _ (by rw [hsz]; omega) (by omega)]; exact HR0.out
  have hl1 := lt_of_get hx1
  generalize htk : tokAt ts s.i = t0 at *
  have h2 := h1.alloc (itObj t0 zTok (.pointer none))
  have F2 := (HF0.out.trans F1).alloc (itObj t0 zTok (.pointer none))
  have hi2 : (w1.alloc (itObj t0 zTok (.pointer none))).heap[w1.heap.size]? = some (itObj t0 zTok (.pointer none)) := heap_alloc_new w1 _
  have hx2 : (w1.alloc (itObj t0 zTok (.pointer none))).heap[w.heap.size]? = some (itObj zTok zTok (.pointer none)) := by rw [Below.heap_alloc _ _ _ hl1]; exact hx1
  have e1 : w1.heap.size ≠ rb := by have := h1.rlt; omega
  have e2 : w1.heap.size ≠ gl := by have := h1.glt; omega
  have e3 : w.heap.size ≠ w1.heap.size := by omega
  have e4 : w.heap.size ≠ rb := by omega
  have e5 : w.heap.size ≠ gl := by omega
  have hge : w.heap.size ≤ w1.heap.size := by omega
  clear h1 F1 hx1 HR0 HF0
  have W2 := want_stp h2 [2] (by decide) (by decide)
  rw [wantW_tok] at W2
  have hsz2 : (w1.alloc (itObj t0 zTok (.pointer none))).heap.size = w1.heap.size + 1 := by simp
  rw [hsz2] at W2
  simp only [HIT.out, hk] at h2 F2 hsz2 hi2 hx2 W2
  rw [Bool.true_and, ← HE2.out, ← HE3.out] at W2
  go_wp2_with fail
  refine W2.mono ?_
  clear W2 h2
  rintro e w3 ⟨rfl, h3, F3⟩
  generalize htw : wantT ts true (s.i + 1) [2] = u0 at HV ⊢
  clear htw
  have hi3 : w3.heap[w1.heap.size]? = _ := (F3.block _ (by rw [hsz2]; omega) e1).trans hi2
  have hx3 : w3.heap[w.heap.size]? = _ := (F3.block _ (by rw [hsz2]; omega) e4).trans hx2
  have F3' := F2.trans F3
  clear hi2 hx2 F2 F3 hsz2
  generalize hby : w1.heap.size = bi at *
  have HBY : Hid _ := hby
  clear hby
  generalize hbr : w.heap.size = br at *
  have HBR : Hid _ := hbr
  clear hbr
  obtain ⟨⟨y0, y1, y2, y3, y4, y5, y6, y7, y8, y9⟩, yf⟩ := it_cells hi3
  have h4 := ((((h3.other e1 e2 4 (.int .i64 (kindOf u0))).other e1 e2 5 (.int .i64 u0.pl)).other e1 e2 6 (.int .i64 (nmOf u0))).other e1 e2 7 (S (ownOf u0)))
  have hgb : w.heap.size ≤ bi := by rw [HBR.out]; exact hge
  have F4 := ((((F3'.new hgb 4 (.int .i64 (kindOf u0))).new hgb 5 (.int .i64 u0.pl)).new hgb 6 (.int .i64 (nmOf u0))).new hgb 7 (S (ownOf u0)))
  have hi4 := item_set (item_set (item_set (item_set hi3 4 (.int .i64 (kindOf u0))) 5 (.int .i64 u0.pl)) 6 (.int .i64 (nmOf u0))) 7 (S (ownOf u0))
  have hx4 := (pitem_far e3 7 (S (ownOf u0))).trans ((pitem_far e3 6 (.int .i64 (nmOf u0))).trans ((pitem_far e3 5 (.int .i64 u0.pl)).trans ((pitem_far e3 4 (.int .i64 (kindOf u0))).trans hx3)))
  have H4 : Hid _ := h4
  have HF4 : Hid _ := F4
  have HI4 : Hid _ := hi4
  have HX4 : Hid _ := hx4
  have W3 := want_stp h4 [8] (by decide) (by decide)
  rw [← HE4.out, ← HE5.out] at W3
  have hl4 := lt_of_get hi4
  have hl4' := lt_of_get hx4
  simp only [World.size_setCell] at W3 hl4 hl4'
  clear h3 F3' hi3 hx3 h4 F4 hi4 hx4 HE2 HE3 HE4 HE5
  generalize wantW ts ok2 j2 [8] = wv3 at *
  go_wp2_with fail
  refine W3.mono ?_
  rintro e w5 ⟨rfl, h5, F5⟩
  clear W3 y0 y1 y2 y3 y4 y5 y6 y7 y8 y9 yf
  have hi5 : w5.heap[bi]? = some (.cells #[.int .i64 11, .int .i64 t0.pl, .int .i64 (nmOf t0), S (ownOf t0), .int .i64 (kindOf u0), .int .i64 u0.pl, .int .i64 (nmOf u0), S (ownOf u0), .int .i64 0, .pointer none] 163 (0, 0)) := (F5.block bi (by simpa using hl4) e1).trans HI4.out
  have hx5 := (F5.block br (by simpa using hl4') e4).trans HX4.out
  have F5' := HF4.out.trans F5
  clear H4 HF4 HI4 HX4 F5 hl4 hl4'
  have W4 := cond_stp hf HG.out h5 HP.out
  rw [← HE6.out, ← HE7.out] at W4
  obtain ⟨⟨y0, y1, y2, y3, y4, y5, y6, y7, y8, y9⟩, yf⟩ := it_cells hi5
  clear y0 y1 y2 y3 y4 y5 y6 y7 y8 y9 yf
  have hl5 := lt_of_get hi5
  have hl5' := lt_of_get hx5
  have HI5 : Hid _ := hi5
  have HX5 : Hid _ := hx5
  have HF5 : Hid _ := F5'
  clear hi5 hx5 F5' h5
  go_wp2_with fail
  refine W4.mono ?_
  rintro e w6 ⟨b, rfl, F6, h6, hC6⟩
  clear W4
  have hi6 := (F6.block bi hl5 e1).trans HI5.out
  have hx6 := (F6.block br hl5' e4).trans HX5.out
  have h7 := h6.other e1 e2 9 (.pointer (some ⟨b, 0, none⟩))
  have F7 := (HF5.out.trans F6).new hgb 9 (.pointer (some ⟨b, 0, none⟩))
  have hi7 : (w6.setCell ⟨bi, 9, none⟩ (.pointer (some ⟨b, 0, none⟩))).heap[bi]? = some (.cells #[.int .i64 11, .int .i64 t0.pl, .int .i64 (nmOf t0), S (ownOf t0), .int .i64 (kindOf u0), .int .i64 u0.pl, .int .i64 (nmOf u0), S (ownOf u0), .int .i64 0, .pointer (some ⟨b, 0, none⟩)] 163 (0, 0)) := item_set hi6 9 (.pointer (some ⟨b, 0, none⟩))
  have hx7 := (pitem_far e3 9 (.pointer (some ⟨b, 0, none⟩))).trans hx6
  have hC7 : ok4 = true → CondAt a.L rb (w6.setCell ⟨bi, 9, none⟩ (.pointer (some ⟨b, 0, none⟩))) a.top b := fun e => (hC6 e).item hi6 _ _
  obtain ⟨⟨y0, y1, y2, y3, y4, y5, y6, y7, y8, y9⟩, yf⟩ := it_cells hi6
  have W5 := want_stp h7 [5] (by decide) (by decide)
  rw [← HE8.out, ← HE9.out] at W5
  simp only [World.size_setCell] at W5
  have H7 : Hid _ := h7
  have HF7 : Hid _ := F7
  have HI7 : Hid _ := hi7
  have HX7 : Hid _ := hx7
  have HC7 : Hid _ := hC7
  clear h6 h7 F7 hi7 hx7 hC7 hC6 F6 hi6 hx6 HI5 HX5 HF5
  generalize wantW ts ok4 j4 [5] = wv5 at *
  go_wp2_with fail
  refine W5.mono ?_
  rintro e w8 ⟨rfl, h8, F8⟩
  clear W5 y0 y1 y2 y3 y4 y5 y6 y7 y8 y9 yf
  have hi8 := (F8.block bi (lt_of_get HI7.out) e1).trans HI7.out
  have hx8 := (F8.block br (lt_of_get HX7.out) e4).trans HX7.out
  have F8' := HF7.out.trans F8
  have hC8 : ok4 = true → CondAt a.L rb w8 a.top b := fun e => (HC7.out e).pf H7.out F8
  clear H7 HF7 HI7 HX7 HC7 F8
  obtain ⟨⟨y0, y1, y2, y3, y4, y5, y6, y7, y8, y9⟩, yf⟩ := it_cells hi8
  obtain ⟨⟨z0, z1, z2, z3, z4, z5, z6, z7, z8, z9⟩, zf⟩ := it_cells hx8
  have H8 : Hid _ := h8
  have HF8 : Hid _ := F8'
  have HC8 : Hid _ := hC8
  have HX8 : Hid _ := hx8
  clear h8 F8' hC8 hi8 hx8
  have e3' := e3.symm
  clear HE6 HE7 HE8 HE9 HP
  go_wp2_with fail
  have hbr : w.heap.size ≤ br := Nat.le_of_eq HBR.out
  refine bodyPost_ret (v := .agg #[.int .i64 11, .int .i64 t0.pl, .int .i64 (nmOf t0), S (ownOf t0), .int .i64 (kindOf u0), .int .i64 u0.pl, .int .i64 (nmOf u0), S (ownOf u0), .int .i64 0, .pointer (some ⟨b, 0, none⟩)]) (by simp [results, Tryz.results104, go_sem, z0, z1, z2, z3, z4, z5, z6, z7, z8, z9, zf]) rfl ⟨b, ?_, ?_, ?_, ?_⟩
  · rw [HV.out, hk]; rfl
  · exact (((((((((HF8.out.new hbr _ _).new hbr _ _).new hbr _ _).new hbr _ _).new hbr _ _).new hbr _ _).new hbr _ _).new hbr _ _).new hbr _ _).new hbr _ _
  · exact (((((((((H8.out.other e4 e5 _ _).other e4 e5 _ _).other e4 e5 _ _).other e4 e5 _ _).other e4 e5 _ _).other e4 e5 _ _).other e4 e5 _ _).other e4 e5 _ _).other e4 e5 _ _).other e4 e5 _ _
  · intro e
    have c1 := (HC8.out e).item HX8.out 0 (.int .i64 11)
    have x1 := item_set HX8.out 0 (.int .i64 11)
    have c2 := c1.item x1 1 (.int .i64 t0.pl)
    have x2 := item_set x1 1 (.int .i64 t0.pl)
    have c3 := c2.item x2 2 (.int .i64 (nmOf t0))
    have x3 := item_set x2 2 (.int .i64 (nmOf t0))
    have c4 := c3.item x3 3 (S (ownOf t0))
    have x4 := item_set x3 3 (S (ownOf t0))
    have c5 := c4.item x4 4 (.int .i64 (kindOf u0))
    have x5 := item_set x4 4 (.int .i64 (kindOf u0))
    have c6 := c5.item x5 5 (.int .i64 u0.pl)
    have x6 := item_set x5 5 (.int .i64 u0.pl)
    have c7 := c6.item x6 6 (.int .i64 (nmOf u0))
    have x7 := item_set x6 6 (.int .i64 (nmOf u0))
    have c8 := c7.item x7 7 (S (ownOf u0))
    have x8 := item_set x7 7 (S (ownOf u0))
    have c9 := c8.item x8 8 (.int .i64 0)
    have x9 := item_set x8 8 (.int .i64 0)
    exact c9.item x9 9 (.pointer (some ⟨b, 0, none⟩))
set_option maxHeartbeats 4000000 in
theorem item_rule {f rb gl cl : Nat} {ts : List Tok} {s : Q} {w : World} (hf : FormOK f 152 6 rb gl cl ts) (h : RR rb gl cl ts s w) (hgood : s.bad = false) (hk : kindOf (wantT ts true s.i [11, 12, 13]) ≠ 11) {ok2 ok3 : Bool} {j2 j3 : Nat} (e2 : ok2 = sees ts [11, 12, 13] s.i) (e3 : j2 = nextI ok2 s.i) (e4 : ok3 = (ok2 && sees ts [14] j2)) (e5 : j3 = nextI ok3 j2) {L : List Pt} {a : Rd}
    (hP : ok3 = true → P f 6 ts j3 L 0 = some a) {ok4 ok5 : Bool} {j4 j5 : Nat} (e6 : j4 = if ok3 then a.i else j3) (e7 : ok4 = (ok3 && a.ok)) (e8 : ok5 = (ok4 && sees ts [5] j4)) (e9 : j5 = nextI ok5 j4) :
    Calls Tryz.prog 104 #[.pointer (some ⟨rb, 0, none⟩)] w fun e w' => ∃ b, e = .returned (itV (wantT ts true s.i [11, 12, 13]) zTok b) ∧ PF rb w w' ∧ RR rb gl cl ts (Stp ts s ok5 j5) w' ∧ (ok4 = true → CondAt a.L rb w' a.top b) := by
  have h0 : RR rb gl cl ts (Stp ts s true s.i) (w.alloc (itObj zTok zTok (.pointer none))) := h.alloc _
  have hr0 : (w.alloc (itObj zTok zTok (.pointer none))).heap[w.heap.size]? = some (itObj zTok zTok (.pointer none)) := heap_alloc_new w _
  have F0 : PF rb w (w.alloc (itObj zTok zTok (.pointer none))) := (PF.refl rb w).alloc _
  have hrl := h.rlt
  have hgl := h.glt
  have W1 := want_stp h0 [11, 12, 13] (by decide) (by decide)
  rw [wantW_tok] at W1
  rw [Bool.true_and, ← e2, ← e3] at W1
  have HE2 : Hid _ := e2
  have HE3 : Hid _ := e3
  have HE4 : Hid _ := e4
  have HE5 : Hid _ := e5
  have HP : Hid _ := hP
  have HR0 : Hid _ := hr0
  have HG : Hid _ := hgood
  have HF0 : Hid _ := F0
  have HIT : Hid (∀ t u v, itObj t u v = .cells #[.int .i64 (kindOf t), .int .i64 t.pl, .int .i64 (nmOf t), S (ownOf t), .int .i64 (kindOf u), .int .i64 u.pl, .int .i64 (nmOf u), S (ownOf u), .int .i64 0, v] 163 (0, 0)) := fun _ _ _ => rfl
  have HE6 : Hid _ := e6
  have HE7 : Hid _ := e7
  have HE8 : Hid _ := e8
  have HE9 : Hid _ := e9
  clear e6 e7 e8 e9 e2 e3 e4 e5 hP hr0 hgood h h0 F0
  have hsz : (w.alloc (itObj zTok zTok (.pointer none))).heap.size = w.heap.size + 1 := by simp
  have HV : Hid (∀ b, itV (wantT ts true s.i [11, 12, 13]) zTok b = .agg #[.int .i64 (kindOf (wantT ts true s.i [11, 12, 13])), .int .i64 (wantT ts true s.i [11, 12, 13]).pl, .int .i64 (nmOf (wantT ts true s.i [11, 12, 13])), S (ownOf (wantT ts true s.i [11, 12, 13])), .int .i64 0, .int .i64 0, .int .i64 0, S [], .int .i64 0, .pointer (some ⟨b, 0, none⟩)]) := fun _ => rfl
  generalize itV (wantT ts true s.i [11, 12, 13]) zTok = iv at HV ⊢
  generalize wantT ts true s.i [11, 12, 13] = t0 at *
  generalize hkk : kindOf t0 = kk at *
  have hk2 : ((kk : Int) == (11 : Int)) = false := by
    have : ¬ ((kk : Int) = 11) := by omega
    simpa using this
  go_enter Tryz.func104, Tryz.ntmps104
  go_wp2_with fail
  rw [hsz] at W1
  refine W1.mono ?_
  rintro e w1 ⟨rfl, h1, F1⟩
  clear W1
  have hx1 : w1.heap[w.heap.size]? = some (itObj zTok zTok (.pointer none)) := by rw [F1.block _ (by rw [hsz]; omega) (by omega)]; exact HR0.out
  have hl1 := lt_of_get hx1
  have h2 := h1.alloc (itObj t0 zTok (.pointer none))
  have F2 := (HF0.out.trans F1).alloc (itObj t0 zTok (.pointer none))
  have hi2 : (w1.alloc (itObj t0 zTok (.pointer none))).heap[w1.heap.size]? = some (itObj t0 zTok (.pointer none)) := heap_alloc_new w1 _
  have hx2 : (w1.alloc (itObj t0 zTok (.pointer none))).heap[w.heap.size]? = some (itObj zTok zTok (.pointer none)) := by rw [Below.heap_alloc _ _ _ hl1]; exact hx1
  have e1 : w1.heap.size ≠ rb := by have := h1.rlt; omega
  have e2 : w1.heap.size ≠ gl := by have := h1.glt; omega
  have e3 : w.heap.size ≠ w1.heap.size := by omega
  have e4 : w.heap.size ≠ rb := by omega
  have e5 : w.heap.size ≠ gl := by omega
  have hge : w.heap.size ≤ w1.heap.size := by omega
  clear h1 F1 hx1 HR0 HF0
  have hsz2 : (w1.alloc (itObj t0 zTok (.pointer none))).heap.size = w1.heap.size + 1 := by simp
  have W3 := want_stp h2 [14] (by decide) (by decide)
  rw [← HE4.out, ← HE5.out] at W3
  rw [hsz2] at W3
  simp only [HIT.out, hkk] at h2 F2 hsz2 hi2 hx2 W3
  have hl4 := lt_of_get hi2
  have hl4' := lt_of_get hx2
  clear HE2 HE3 HE4 HE5 h2
  generalize wantW ts ok2 j2 [14] = wv3 at *
  go_wp2_with fail
  refine W3.mono ?_
  rintro e w5 ⟨rfl, h5, F5⟩
  clear W3
  have hi5 : w5.heap[w1.heap.size]? = some (.cells #[.int .i64 kk, .int .i64 t0.pl, .int .i64 (nmOf t0), S (ownOf t0), .int .i64 0, .int .i64 0, .int .i64 0, S [], .int .i64 0, .pointer none] 163 (0, 0)) := (F5.block w1.heap.size hl4 e1).trans hi2
  have hx5 := (F5.block w.heap.size hl4' e4).trans hx2
  have F5' := F2.trans F5
  clear F2 F5 hl4 hl4' hi2 hx2 hsz2
  generalize hby : w1.heap.size = bi at *
  have HBY : Hid _ := hby
  clear hby
  generalize hbr : w.heap.size = br at *
  have HBR : Hid _ := hbr
  clear hbr
  have hgb : w.heap.size ≤ bi := by rw [HBR.out]; exact hge
  have W4 := cond_stp hf HG.out h5 HP.out
  rw [← HE6.out, ← HE7.out] at W4
  obtain ⟨⟨y0, y1, y2, y3, y4, y5, y6, y7, y8, y9⟩, yf⟩ := it_cells hi5
  clear y0 y1 y2 y3 y4 y5 y6 y7 y8 y9 yf
  have hl5 := lt_of_get hi5
  have hl5' := lt_of_get hx5
  have HI5 : Hid _ := hi5
  have HX5 : Hid _ := hx5
  have HF5 : Hid _ := F5'
  clear hi5 hx5 F5' h5
  go_wp2_with fail
  refine W4.mono ?_
  rintro e w6 ⟨b, rfl, F6, h6, hC6⟩
  clear W4
  have hi6 := (F6.block bi hl5 e1).trans HI5.out
  have hx6 := (F6.block br hl5' e4).trans HX5.out
  have h7 := h6.other e1 e2 9 (.pointer (some ⟨b, 0, none⟩))
  have F7 := (HF5.out.trans F6).new hgb 9 (.pointer (some ⟨b, 0, none⟩))
  have hi7 : (w6.setCell ⟨bi, 9, none⟩ (.pointer (some ⟨b, 0, none⟩))).heap[bi]? = some (.cells #[.int .i64 kk, .int .i64 t0.pl, .int .i64 (nmOf t0), S (ownOf t0), .int .i64 0, .int .i64 0, .int .i64 0, S [], .int .i64 0, .pointer (some ⟨b, 0, none⟩)] 163 (0, 0)) := item_set hi6 9 (.pointer (some ⟨b, 0, none⟩))
  have hx7 := (pitem_far e3 9 (.pointer (some ⟨b, 0, none⟩))).trans hx6
  have hC7 : ok4 = true → CondAt a.L rb (w6.setCell ⟨bi, 9, none⟩ (.pointer (some ⟨b, 0, none⟩))) a.top b := fun e => (hC6 e).item hi6 _ _
  obtain ⟨⟨y0, y1, y2, y3, y4, y5, y6, y7, y8, y9⟩, yf⟩ := it_cells hi6
  have W5 := want_stp h7 [5] (by decide) (by decide)
  rw [← HE8.out, ← HE9.out] at W5
  simp only [World.size_setCell] at W5
  have H7 : Hid _ := h7
  have HF7 : Hid _ := F7
  have HI7 : Hid _ := hi7
  have HX7 : Hid _ := hx7
  have HC7 : Hid _ := hC7
  clear h6 h7 F7 hi7 hx7 hC7 hC6 F6 hi6 hx6 HI5 HX5 HF5
  generalize wantW ts ok4 j4 [5] = wv5 at *
  go_wp2_with fail
  refine W5.mono ?_
  rintro e w8 ⟨rfl, h8, F8⟩
  clear W5 y0 y1 y2 y3 y4 y5 y6 y7 y8 y9 yf
  have hi8 := (F8.block bi (lt_of_get HI7.out) e1).trans HI7.out
  have hx8 := (F8.block br (lt_of_get HX7.out) e4).trans HX7.out
  have F8' := HF7.out.trans F8
  have hC8 : ok4 = true → CondAt a.L rb w8 a.top b := fun e => (HC7.out e).pf H7.out F8
  clear H7 HF7 HI7 HX7 HC7 F8
  obtain ⟨⟨y0, y1, y2, y3, y4, y5, y6, y7, y8, y9⟩, yf⟩ := it_cells hi8
  obtain ⟨⟨z0, z1, z2, z3, z4, z5, z6, z7, z8, z9⟩, zf⟩ := it_cells hx8
  have H8 : Hid _ := h8
  have HF8 : Hid _ := F8'
  have HC8 : Hid _ := hC8
  have HX8 : Hid _ := hx8
  clear h8 F8' hC8 hi8 hx8
  have e3' := e3.symm
  clear HE6 HE7 HE8 HE9 HP
  go_wp2_with fail
  have hbr : w.heap.size ≤ br := Nat.le_of_eq HBR.out
  refine bodyPost_ret (v := .agg #[.int .i64 kk, .int .i64 t0.pl, .int .i64 (nmOf t0), S (ownOf t0), .int .i64 0, .int .i64 0, .int .i64 0, S [], .int .i64 0, .pointer (some ⟨b, 0, none⟩)]) (by simp [results, Tryz.results104, go_sem, z0, z1, z2, z3, z4, z5, z6, z7, z8, z9, zf]) rfl ⟨b, ?_, ?_, ?_, ?_⟩
  · rw [HV.out]
  · exact (((((((((HF8.out.new hbr _ _).new hbr _ _).new hbr _ _).new hbr _ _).new hbr _ _).new hbr _ _).new hbr _ _).new hbr _ _).new hbr _ _).new hbr _ _
  · exact (((((((((H8.out.other e4 e5 _ _).other e4 e5 _ _).other e4 e5 _ _).other e4 e5 _ _).other e4 e5 _ _).other e4 e5 _ _).other e4 e5 _ _).other e4 e5 _ _).other e4 e5 _ _).other e4 e5 _ _
  · intro e
    have c1 := (HC8.out e).item HX8.out 0 (.int .i64 kk)
    have x1 := item_set HX8.out 0 (.int .i64 kk)
    have c2 := c1.item x1 1 (.int .i64 t0.pl)
    have x2 := item_set x1 1 (.int .i64 t0.pl)
    have c3 := c2.item x2 2 (.int .i64 (nmOf t0))
    have x3 := item_set x2 2 (.int .i64 (nmOf t0))
    have c4 := c3.item x3 3 (S (ownOf t0))
    have x4 := item_set x3 3 (S (ownOf t0))
    have c5 := c4.item x4 4 (.int .i64 0)
    have x5 := item_set x4 4 (.int .i64 0)
    have c6 := c5.item x5 5 (.int .i64 0)
    have x6 := item_set x5 5 (.int .i64 0)
    have c7 := c6.item x6 6 (.int .i64 0)
    have x7 := item_set x6 6 (.int .i64 0)
    have c8 := c7.item x7 7 (S [])
    have x8 := item_set x7 7 (S [])
    have c9 := c8.item x8 8 (.int .i64 0)
    have x9 := item_set x8 8 (.int .i64 0)
    exact c9.item x9 9 (.pointer (some ⟨b, 0, none⟩))
end Go.Proofs.YtfkdailfcmnjlaaGreatDoor

namespace Go.Proofs.YtfkdailfcmnjlaaGreatDoor
open Go Go.RowKit
set_option maxRecDepth 100000

theorem tok_cases {ts : List Tok} (hW : ∀ t ∈ ts, TokW t) (j : Nat) : TokW (tokAt ts j) ∨ tokAt ts j = noTok := by
  by_cases h : tokAt ts j = noTok
  · exact .inr h
  · exact .inl (hW _ (inside h).2)
theorem see_iff {ts : List Tok} (hW : ∀ t ∈ ts, TokW t) (j : Nat) {x : List UInt8} (hx : x ∈ spell.drop 3) {k : Nat} (hk : kn x = k) : isW (tokAt ts j) x = decide (kindOf (tokAt ts j) = k) := by
  rcases tok_cases hW j with h | h
  · rw [Bool.eq_iff_iff, isW_iff h hx, hk]; simp
  · have := spell_big x hx
    rw [h, noTok_isW, show kindOf noTok = 0 from by decide, ← hk]
    unfold kn
    symm; rw [decide_eq_false_iff_not]; omega
theorem kind_two {t : Tok} : kindOf t = 2 ↔ t.k = 111 := by
  unfold kindOf
  constructor
  · intro h
    by_cases h1 : t.k = 110
    · rw [if_pos h1] at h; simp at h
    · rw [if_neg h1] at h
      by_cases h2 : t.k = 111
      · exact h2
      · rw [if_neg h2] at h
        by_cases h3 : t.k = 101
        · rw [if_pos h3] at h; simp at h
        · rw [if_neg h3] at h
          exfalso
          have key : ∀ x : List UInt8, (idx spell x).toNat ≠ 2 := by
            intro x
            by_cases hx : x = []
            · subst hx; decide
            · have hx' : ∀ r : List (List UInt8), idx ([] :: r) x = if idx r x < 0 then -1 else idx r x + 1 := fun r => by
                rw [idx, if_neg (by simpa using hx)]
              have e : spell = [] :: [] :: [] :: spell.drop 3 := by decide
              rw [e, hx', hx', hx']
              have := idx_ge (spell.drop 3) x
              split
              · decide
              · omega
          exact key _ h
  · intro h; rw [if_neg (by omega), if_pos h]
theorem sees_one (ts : List Tok) (k j : Nat) : sees ts [k] j = decide (kindOf (tokAt ts j) = k) := by
  unfold sees; exact one_contains _ _

/-- The words of an item. -/
def ItOf (x : Itm) (t u : Tok) : Prop :=
  (x.name ≠ [] ∧ kindOf t = 11 ∧ t.pl = x.pl ∧ kindOf u = 2 ∧ u.pl = x.named ∧ ownOf u = x.name ∧ nmOf u = 0) ∨
  (x.name = [] ∧ kindOf t = (if x.allow then 12 else 13) ∧ t.pl = x.pl ∧ u = zTok)
/-- What reading an item leaves. -/
def LeftPI (rb gl cl : Nat) (ts : List Tok) (s : Q) (w : World) (r : ItR) (e : Ending) (w' : World) : Prop :=
  ∃ t u b, e = .returned (itV t u b) ∧ PF rb w w' ∧ ((r.ok = true ∧ RR rb gl cl ts { s with i := r.i } w' ∧ CondAt r.L rb w' r.it.top b ∧ ItOf r.it t u) ∨ (r.ok = false ∧ RR rb gl cl ts (failQ ts { s with i := r.i }) w'))

theorem tail_parts {f : Nat} {ts : List Tok} {i : Nat} {L : List Pt} {x : Itm} {r : ItR} (h : itemTail f ts i L x = some r) :
    ∃ a : Rd, P f 6 ts i L 0 = some a ∧ ((a.ok = true ∧ isW (tokAt ts a.i) [59] = true ∧ r = ⟨true, a.i + 1, a.L, { x with top := a.top, parts := a.L.length }⟩) ∨ ((a.ok && isW (tokAt ts a.i) [59]) = false ∧ r.ok = false ∧ r.i = a.i)) := by
  unfold itemTail at h
  cases ha : P f 6 ts i L 0 with
  | none => rw [ha] at h; simp at h
  | some a =>
    rw [ha] at h
    simp only at h
    refine ⟨a, rfl, ?_⟩
    by_cases ok : a.ok = true
    · rw [if_pos ok] at h
      by_cases hw : isW (tokAt ts a.i) [59] = true
      · rw [if_pos hw] at h; simp at h; exact .inl ⟨ok, hw, h.symm⟩
      · rw [if_neg hw] at h; simp [itFail] at h; subst h; exact .inr ⟨by rw [ok]; simpa using hw, rfl, rfl⟩
    · rw [if_neg ok] at h; simp [itFail] at h; subst h
      exact .inr ⟨by simp at ok; rw [ok]; rfl, rfl, rfl⟩

theorem pitem_any {f rb gl cl : Nat} {ts : List Tok} {s : Q} {w : World} (hf : FormOK f 152 6 rb gl cl ts) (hW : ∀ t ∈ ts, TokW t) (hN : ∀ t ∈ ts, t.k = 111 → t.text ≠ []) (h : RR rb gl cl ts s w) (hgood : s.bad = false) {L : List Pt} {r : ItR} (hI : itemP f ts s.i L = some r) :
    Calls Tryz.prog 104 #[.pointer (some ⟨rb, 0, none⟩)] w (LeftPI rb gl cl ts s w r) := by
  unfold itemP at hI
  have sLet := see_iff hW s.i (x := wLet) (by decide) (k := 11) (by decide)
  have sAllow := see_iff hW s.i (x := wAllow) (by decide) (k := 12) (by decide)
  have sDeny := see_iff hW s.i (x := wDeny) (by decide) (k := 13) (by decide)
  have finish : ∀ {ok3 : Bool} {j3 : Nat} {a : Rd} {t u : Tok} {x : Itm} {ok4 ok5 : Bool} {j4 j5 : Nat}, ok3 = true → j4 = (if ok3 then a.i else j3) → ok4 = (ok3 && a.ok) → ok5 = (ok4 && sees ts [5] j4) → j5 = nextI ok5 j4 → ItOf { x with top := a.top, parts := a.L.length } t u →
      ((a.ok = true ∧ isW (tokAt ts a.i) [59] = true ∧ r = ⟨true, a.i + 1, a.L, { x with top := a.top, parts := a.L.length }⟩) ∨ ((a.ok && isW (tokAt ts a.i) [59]) = false ∧ r.ok = false ∧ r.i = a.i)) →
      ∀ e w', (∃ b, e = .returned (itV t u b) ∧ PF rb w w' ∧ RR rb gl cl ts (Stp ts s ok5 j5) w' ∧ (ok4 = true → CondAt a.L rb w' a.top b)) → LeftPI rb gl cl ts s w r e w' := by
    intro ok3 j3 a t u x ok4 ok5 j4 j5 e3 e6 e7 e8 e9 hO hr e w' ⟨b, he, hF, hR, hC⟩
    subst e3
    have e6 : j4 = a.i := e6
    rw [Bool.true_and] at e7
    subst e6
    have hs := see_iff hW a.i (x := [59]) (by decide) (k := 5) (by decide)
    rw [sees_one, ← hs, e7] at e8
    refine ⟨t, u, b, he, hF, ?_⟩
    rcases hr with ⟨ok, hw, rfl⟩ | ⟨no, rok, ri⟩
    · rw [ok, hw] at e8
      have e8 : ok5 = true := e8
      subst e8; subst e9
      exact .inl ⟨rfl, hR, hC (by rw [e7]; exact ok), hO⟩
    · rw [no] at e8
      subst e8; subst e9
      exact .inr ⟨rok, by rw [ri]; exact hR⟩
  have fails : ∀ {t u : Tok} {j : Nat} {a : Rd} {ok4 : Bool}, r = ⟨false, j, [], noItm⟩ → ∀ e w', (∃ b, e = .returned (itV t u b) ∧ PF rb w w' ∧ RR rb gl cl ts (Stp ts s false j) w' ∧ (ok4 = true → CondAt a.L rb w' a.top b)) → LeftPI rb gl cl ts s w r e w' := by
    intro t u j a ok4 e e' w' ⟨b, he, hF, hR, _⟩
    subst e
    exact ⟨t, u, b, he, hF, .inr ⟨rfl, hR⟩⟩
  by_cases hl : isW (tokAt ts s.i) wLet = true
  · rw [if_pos hl] at hI
    have hk : kindOf (tokAt ts s.i) = 11 := by rw [sLet] at hl; simpa using hl
    by_cases ho : (tokAt ts (s.i + 1)).k = 111
    · rw [if_pos ho] at hI
      have k2 : sees ts [2] (s.i + 1) = true := by rw [sees_one]; simpa using kind_two.2 ho
      have s8 := see_iff hW (s.i + 2) (x := [61]) (by decide) (k := 8) (by decide)
      have eu : wantT ts true (s.i + 1) [2] = tokAt ts (s.i + 1) := by unfold wantT; rw [k2]; rfl
      have hne := hN _ (inside (ts := ts) (i := s.i + 1) fun e => by rw [e] at ho; simp [noTok] at ho).2 ho
      by_cases h8 : isW (tokAt ts (s.i + 2)) [61] = true
      · rw [if_pos h8] at hI
        obtain ⟨a, hP, hr⟩ := tail_parts hI
        have k8 : sees ts [8] (s.i + 2) = true := by rw [sees_one, ← s8]; exact h8
        refine (pitem_let hf h hgood hk (ok2 := true) (ok3 := true) (j2 := s.i + 2) (j3 := s.i + 3) k2.symm rfl (by rw [k8]; rfl) rfl (fun _ => hP) rfl rfl rfl rfl).mono ?_
        refine finish (ok3 := true) (j3 := s.i + 3) rfl rfl rfl rfl rfl ?_ hr
        rw [eu]
        refine .inl ⟨hne, hk, rfl, kind_two.2 ho, rfl, ?_, ?_⟩
        · unfold ownOf; rw [if_pos ho]
        · unfold nmOf; rw [if_neg (by omega)]
      · rw [if_neg h8] at hI
        have k8 : sees ts [8] (s.i + 2) = false := by rw [sees_one, ← s8]; simpa using h8
        simp [itFail] at hI
        refine (pitem_let hf h hgood hk (ok2 := true) (ok3 := false) (j2 := s.i + 2) (j3 := s.i + 2) k2.symm rfl (by rw [k8]; rfl) rfl (L := L) (a := ⟨false, 0, [], 0⟩) (fun e => by simp at e) rfl rfl rfl rfl).mono ?_
        exact fails hI.symm
    · rw [if_neg ho] at hI
      have k2 : sees ts [2] (s.i + 1) = false := by rw [sees_one]; simpa using fun e => ho (kind_two.1 e)
      simp [itFail] at hI
      refine (pitem_let hf h hgood hk (ok2 := false) (ok3 := false) (j2 := s.i + 1) (j3 := s.i + 1) k2.symm rfl rfl rfl (L := L) (a := ⟨false, 0, [], 0⟩) (fun e => by simp at e) rfl rfl rfl rfl).mono ?_
      exact fails hI.symm
  · rw [if_neg hl] at hI
    have hk11 : kindOf (tokAt ts s.i) ≠ 11 := by rw [sLet] at hl; simpa using hl
    have hkw : kindOf (wantT ts true s.i [11, 12, 13]) ≠ 11 := by
      unfold wantT; split
      · exact hk11
      · decide
    have s3 : sees ts [11, 12, 13] s.i = (isW (tokAt ts s.i) wAllow || isW (tokAt ts s.i) wDeny) := by
      rw [sAllow, sDeny, Bool.eq_iff_iff]
      unfold sees
      rw [List.contains_iff_mem]
      simp [hk11]
    by_cases ha : (isW (tokAt ts s.i) wAllow || isW (tokAt ts s.i) wDeny) = true
    · rw [if_pos ha] at hI
      rw [ha] at s3
      have s14 := see_iff hW (s.i + 1) (x := wIf) (by decide) (k := 14) (by decide)
      have et : wantT ts true s.i [11, 12, 13] = tokAt ts s.i := by unfold wantT; rw [s3]; rfl
      by_cases hi : isW (tokAt ts (s.i + 1)) wIf = true
      · rw [if_pos hi] at hI
        obtain ⟨a, hP, hr⟩ := tail_parts hI
        have k14 : sees ts [14] (s.i + 1) = true := by rw [sees_one, ← s14]; exact hi
        refine (item_rule hf h hgood hkw (ok2 := true) (ok3 := true) (j2 := s.i + 1) (j3 := s.i + 2) s3.symm rfl (by rw [k14]; rfl) rfl (fun _ => hP) rfl rfl rfl rfl).mono ?_
        refine finish (ok3 := true) (j3 := s.i + 2) rfl rfl rfl rfl rfl ?_ hr
        rw [et]
        refine .inr ⟨rfl, ?_, rfl, rfl⟩
        simp only
        by_cases h12 : isW (tokAt ts s.i) wAllow = true
        · rw [if_pos (by simpa using (isW_text h12).1)]
          rw [sAllow] at h12; simpa using h12
        · have h13 : isW (tokAt ts s.i) wDeny = true := by
            simp at ha; rcases ha with ha | ha
            · exact absurd ha h12
            · exact ha
          rw [if_neg (by rw [(isW_text h13).1]; decide)]
          rw [sDeny] at h13; simpa using h13
      · rw [if_neg hi] at hI
        have k14 : sees ts [14] (s.i + 1) = false := by rw [sees_one, ← s14]; simpa using hi
        simp [itFail] at hI
        refine (item_rule hf h hgood hkw (ok2 := true) (ok3 := false) (j2 := s.i + 1) (j3 := s.i + 1) s3.symm rfl (by rw [k14]; rfl) rfl (L := L) (a := ⟨false, 0, [], 0⟩) (fun e => by simp at e) rfl rfl rfl rfl).mono ?_
        exact fails hI.symm
    · rw [if_neg ha] at hI
      have s3' : sees ts [11, 12, 13] s.i = false := by rw [s3]; simpa using ha
      simp [itFail] at hI
      refine (item_rule hf h hgood hkw (ok2 := false) (ok3 := false) (j2 := s.i) (j3 := s.i) s3'.symm rfl rfl rfl (L := L) (a := ⟨false, 0, [], 0⟩) (fun e => by simp at e) rfl rfl rfl rfl).mono ?_
      exact fails hI.symm
end Go.Proofs.YtfkdailfcmnjlaaGreatDoor

namespace Go.Proofs.YtfkdailfcmnjlaaGreatDoor
open Go Go.RowKit
set_option maxRecDepth 100000
attribute [local go_sem ↓] Go.wp_at_zero Go.wp_at_succ

theorem info_pitem : (Tryz.prog.info? 163).map (fun i => (i.zero, i.size, i.bytes)) = some (some (.agg #[.int .i64 0, .int .i64 0, .int .i64 0, .string ⟨#[]⟩, .int .i64 0, .int .i64 0, .int .i64 0, .string ⟨#[]⟩, .int .i64 0, .pointer none]), 10, 96) := by kernel_rfl

/-- An item's cells. -/
def icell (y : Tok × Tok × Nat × Int) : List Value := [.int .i64 (kindOf y.1), .int .i64 y.1.pl, .int .i64 (nmOf y.1), S (ownOf y.1), .int .i64 (kindOf y.2.1), .int .i64 y.2.1.pl, .int .i64 (nmOf y.2.1), S (ownOf y.2.1), .int .i64 y.2.2.2, .pointer (some ⟨y.2.2.1, 0, none⟩)]
def iCells (ys : List (Tok × Tok × Nat × Int)) : List Value := ys.flatMap icell
theorem iCells_len (ys : List (Tok × Tok × Nat × Int)) : (iCells ys).length = ys.length * 10 := by
  induction ys with
  | nil => rfl
  | cons t ts ih => simp [iCells, icell] at ih ⊢; omega
theorem iCells_snoc (ys : List (Tok × Tok × Nat × Int)) (y : Tok × Tok × Nat × Int) : iCells (ys ++ [y]) = iCells ys ++ icell y := by simp [iCells]
/-- The items lie as they were read. -/
def ItemsAt (C : Nat → Nat → Prop) : List Itm → List (Tok × Tok × Nat × Int) → Prop
  | [], [] => True
  | x :: xs, y :: ys => (C x.top y.2.2.1 ∧ ItOf x y.1 y.2.1) ∧ ItemsAt C xs ys
  | _, _ => False
theorem ItemsAt.mono {C C' : Nat → Nat → Prop} (hC : ∀ i b, C i b → C' i b) : ∀ {xs ys}, ItemsAt C xs ys → ItemsAt C' xs ys
  | [], [], _ => trivial
  | _ :: _, _ :: _, h => ⟨⟨hC _ _ h.1.1, h.1.2⟩, ItemsAt.mono hC h.2⟩
theorem ItemsAt.snoc {C : Nat → Nat → Prop} {x : Itm} {y : Tok × Tok × Nat × Int} (h1 : C x.top y.2.2.1) (h2 : ItOf x y.1 y.2.1) : ∀ {xs ys}, ItemsAt C xs ys → ItemsAt C (xs ++ [x]) (ys ++ [y])
  | [], [], _ => ⟨⟨h1, h2⟩, trivial⟩
  | _ :: _, _ :: _, h => ⟨h.1, ItemsAt.snoc h1 h2 h.2⟩
theorem ItemsAt.len {C : Nat → Nat → Prop} : ∀ {xs ys}, ItemsAt C xs ys → ys.length = xs.length
  | [], [], _ => rfl
  | _ :: _, _ :: _, h => by simp [ItemsAt.len h.2]

theorem item_fwd {F : Nat} {ts : List Tok} {i : Nat} {L : List Pt} {r : ItR} (h : itemP F ts i L = some r) (ok : r.ok = true) : i < r.i ∧ ∃ new, r.L = L ++ new := by
  have tail : ∀ (j : Nat) (x : Itm), i < j → itemTail F ts j L x = some r → i < r.i ∧ ∃ new, r.L = L ++ new := by
    intro j x hj hr
    obtain ⟨a, ha, hres⟩ := tail_parts hr
    rcases hres with ⟨oka, hw, rfl⟩ | ⟨_, hr1, _⟩
    · have f1 := (P_fwd F 6 ts j L 0 a ha oka (by omega)).1
      exact ⟨by simp; omega, P_new ha oka (by omega)⟩
    · rw [hr1] at ok; simp at ok
  unfold itemP at h
  split at h
  · split at h
    · split at h
      · exact tail _ _ (by omega) h
      · simp [itFail] at h; subst h; simp at ok
    · simp [itFail] at h; subst h; simp at ok
  · split at h
    · split at h
      · exact tail _ _ (by omega) h
      · simp [itFail] at h; subst h; simp at ok
    · simp [itFail] at h; subst h; simp at ok
theorem kind_end {t : Tok} (h : TokW t) : kindOf t = 0 ↔ t.k = 101 := by
  rcases h.cases with h | h | h | ⟨h, hm⟩
  · unfold kindOf; rw [if_pos h]; omega
  · unfold kindOf; rw [if_neg (by omega), if_pos h]; omega
  · unfold kindOf; rw [if_neg (by omega), if_neg (by omega), if_pos h]; simp [h]
  · rw [kind_word h]; have := spell_big _ hm; unfold kn; omega

theorem RR.grown {rb gl cl : Nat} {ts : List Tok} {s : Q} {w w' : World} {row : Option Nat} (h : RR rb gl cl ts s w) (hg : w.grownBy w' row) (h1 : row ≠ some rb) (h2 : row ≠ some gl) : RR rb gl cl ts s w' :=
  h.move (hg.block _ h.glt h2.symm) (by rw [hg.block _ h.rlt h1.symm]; exact h.rd) h.lt
/-- A row of items is not the reader, nor its words, nor a tree. -/
theorem row_block {w : World} {base : Nat} {v : Value} {n : Nat} {xs : List Value} (h : w.ownsRow base 163 10 v n xs) {k : Nat} (hk : v.ownBlock = some k) : ∃ cs, w.heap[k]? = some (.cells cs 163 (0, 0)) := by
  rcases h.2 with ⟨rfl, _⟩ | ⟨g, cap, cur, rfl, hb, hg, _⟩
  · simp [Value.ownBlock] at hk
  · simp [Value.ownBlock] at hk; subst hk; exact ⟨cur, hg⟩
theorem RR.apart {rb gl cl : Nat} {ts : List Tok} {s : Q} {w : World} (h : RR rb gl cl ts s w) {base : Nat} {v : Value} {n : Nat} {xs : List Value} (hr : w.ownsRow base 163 10 v n xs) : v.ownBlock ≠ some rb ∧ v.ownBlock ≠ some gl := by
  constructor
  · intro e
    obtain ⟨cs, hc⟩ := row_block hr e
    rw [h.rd] at hc; simp [rdObj] at hc
  · intro e
    obtain ⟨cs, hc⟩ := row_block hr e
    obtain ⟨cs', hw⟩ := h.wl
    rw [hw] at hc; simp at hc
theorem CondAt.grown {L : List Pt} {lt : Nat} {w w' : World} {i b : Nat} (h : CondAt L lt w i b) {base : Nat} {v : Value} {n : Nat} {xs : List Value} (hr : w.ownsRow base 163 10 v n xs) (hg : w.grownBy w' v.ownBlock) : CondAt L lt w' i b :=
  h.keep fun k cs ty hk ht => hg.block k (lt_of_get hk) fun e => by
    obtain ⟨cs', hc⟩ := row_block hr e.symm
    rw [hk] at hc
    simp only [Option.some.injEq, Obj.cells.injEq] at hc
    rw [hc.2.1] at ht
    exact absurd ht (by decide)
theorem ownsRow_pf {w w' : World} {rb gl cl : Nat} {ts : List Tok} {s : Q} (hR : RR rb gl cl ts s w) {base : Nat} {v : Value} {n : Nat} {xs : List Value} (h : w.ownsRow base 163 10 v n xs) (hb : PF rb w w') : w'.ownsRow base 163 10 v n xs := by
  have ha := (hR.apart h).1
  obtain ⟨h1, h2⟩ := h
  refine ⟨h1, ?_⟩
  rcases h2 with h2 | ⟨g, cap, cur, rfl, b, c, d⟩
  · exact .inl h2
  · refine .inr ⟨g, cap, cur, rfl, b, ?_, d⟩
    rw [hb.block g (lt_of_get c) (fun e => ha (by rw [e]; rfl))]; exact c
end Go.Proofs.YtfkdailfcmnjlaaGreatDoor

namespace Go.Proofs.YtfkdailfcmnjlaaGreatDoor
open Go Go.RowKit
set_option maxRecDepth 100000
attribute [local go_sem ↓] Go.wp_at_zero Go.wp_at_succ

/-- The items with their numbers. -/
def numF : Nat → Nat → List (Tok × Tok × Nat × Int) → List (Tok × Tok × Nat × Int)
  | _, _, [] => []
  | l, r, y :: ys => if kindOf y.1 = 11 then (y.1, y.2.1, y.2.2.1, (l : Int)) :: numF (l + 1) r ys else (y.1, y.2.1, y.2.2.1, ((r + 1 : Nat) : Int)) :: numF l (r + 1) ys
/-- Every item has its number. -/
def Numb : Nat → Nat → List Itm → List (Tok × Tok × Nat × Int) → Prop
  | _, _, [], [] => True
  | l, r, x :: xs, y :: ys => (x.name ≠ [] ∧ y.2.2.2 = (l : Int) ∧ Numb (l + 1) r xs ys) ∨ (x.name = [] ∧ y.2.2.2 = ((r + 1 : Nat) : Int) ∧ Numb l (r + 1) xs ys)
  | _, _, _, _ => False
theorem numF_len : ∀ (l r : Nat) (ys : List (Tok × Tok × Nat × Int)), (numF l r ys).length = ys.length
  | _, _, [] => rfl
  | l, r, y :: ys => by
    rw [numF]
    split
    · simp [numF_len (l + 1) r ys]
    · simp [numF_len l (r + 1) ys]
theorem itOf_let {x : Itm} {t u : Tok} (h : ItOf x t u) : (x.name ≠ [] ∧ kindOf t = 11) ∨ (x.name = [] ∧ kindOf t ≠ 11) := by
  rcases h with h | h
  · exact .inl ⟨h.1, h.2.1⟩
  · exact .inr ⟨h.1, by rw [h.2.1]; split <;> decide⟩
theorem numb_ok {C : Nat → Nat → Prop} : ∀ {xs : List Itm} {ys : List (Tok × Tok × Nat × Int)} (l r : Nat), ItemsAt C xs ys → Numb l r xs (numF l r ys) ∧ ItemsAt C xs (numF l r ys)
  | [], [], _, _, _ => ⟨trivial, trivial⟩
  | x :: xs, y :: ys, l, r, h => by
    obtain ⟨⟨h1, h2⟩, h3⟩ := h
    rw [numF]
    rcases itOf_let h2 with ⟨hn, hk⟩ | ⟨hn, hk⟩
    · rw [if_pos hk]
      obtain ⟨i1, i2⟩ := numb_ok (l + 1) r h3
      exact ⟨.inl ⟨hn, rfl, i1⟩, ⟨h1, h2⟩, i2⟩
    · rw [if_neg hk]
      obtain ⟨i1, i2⟩ := numb_ok l (r + 1) h3
      exact ⟨.inr ⟨hn, rfl, i1⟩, ⟨h1, h2⟩, i2⟩

/-- A row of items, its cells. -/
theorem row_cells {w : World} {base : Nat} {v : Value} {ys : List (Tok × Tok × Nat × Int)} (h : w.ownsRow base 163 10 v ys.length (iCells ys)) : ∃ a cap, v = .slice a ys.length cap ∧ ∀ k, k < ys.length → ∃ g, a = some ⟨g, 0, none⟩ ∧ (∃ cs, w.heap[g]? = some (.cells cs 163 (0, 0))) ∧ ∀ j, j < 10 → w.cell? ⟨g, k * 10 + j, none⟩ = (icell (ys.getD k (zTok, zTok, 0, 0)))[j]? := by
  obtain ⟨hl, h⟩ := h
  rcases h with ⟨rfl, h0⟩ | ⟨g, cap, cur, rfl, hb, hg, h1, h2, h3, h4⟩
  · exact ⟨none, 0, by rw [h0], fun k hk => by omega⟩
  · refine ⟨_, cap, rfl, fun k hk => ⟨g, rfl, ⟨cur, hg⟩, fun j hj => ?_⟩⟩
    rw [cell_of_row w g (k * 10 + j) _ _ _ hg]
    have e1 : cur[k * 10 + j]? = (cur.toList.take (ys.length * 10))[k * 10 + j]? := by
      rw [List.getElem?_take_of_lt (by omega)]; simp
    rw [e1, h4]
    have : ∀ (ys : List (Tok × Tok × Nat × Int)) (k : Nat), k < ys.length → (iCells ys)[k * 10 + j]? = (icell (ys.getD k (zTok, zTok, 0, 0)))[j]? := by
      intro ys
      induction ys with
      | nil => intro k hk; simp at hk
      | cons y ys ih =>
        intro k hk
        have e2 : iCells (y :: ys) = icell y ++ iCells ys := rfl
        have e3 : (icell y).length = 10 := rfl
        cases k with
        | zero => rw [e2, List.getElem?_append_left (by omega)]; simp
        | succ k =>
          rw [e2, List.getElem?_append_right (by omega), e3, show (k + 1) * 10 + j - 10 = k * 10 + j from by omega, ih k (by simpa using hk)]
          rfl
    exact this ys k hk

/-- A cell of a row is written. -/
theorem row_setCell {w : World} {base : Nat} {e : TypeId} {size g n cap : Nat} {xs : List Value} (h : w.ownsRow base e size (.slice (some ⟨g, 0, none⟩) n cap) n xs) {j : Nat} (hj : j < n * size) (u : Value) : (w.setCell ⟨g, j, none⟩ u).ownsRow base e size (.slice (some ⟨g, 0, none⟩) n cap) n (xs.set j u) := by
  obtain ⟨hl, h⟩ := h
  refine ⟨by simpa using hl, ?_⟩
  rcases h with ⟨h, _⟩ | ⟨g', cap', cur, h, h1, h2, h3, h4, h5, h6⟩
  · simp at h
  · simp only [Value.slice.injEq, Option.some.injEq, Addr.mk.injEq, and_true, true_and] at h
    obtain ⟨rfl, rfl⟩ := h
    refine .inr ⟨g, cap, cur.setIfInBounds j u, rfl, h1, heap_setCell_same w g j _ _ u h2, h3, h4, by simpa using h5, ?_⟩
    rw [← h6]
    simp [List.take_set]
theorem grown_set {w w' : World} {g : Nat} (h : w.grownBy w' (some g)) (j : Nat) (u : Value) : w.grownBy (w'.setCell ⟨g, j, none⟩ u) (some g) :=
  ⟨h.os, h.tape, h.output, by simpa using h.size, fun k hk hn => (Below.heap_setCell _ _ _ _ (by simpa using hn)).trans (h.block k hk hn)⟩
theorem iCells_set (d : List (Tok × Tok × Nat × Int)) (y : Tok × Tok × Nat × Int) (r : List (Tok × Tok × Nat × Int)) (n : Int) : (iCells (d ++ y :: r)).set (d.length * 10 + 8) (.int .i64 n) = iCells (d ++ (y.1, y.2.1, y.2.2.1, n) :: r) := by
  have e : ∀ a b : List (Tok × Tok × Nat × Int), iCells (a ++ b) = iCells a ++ iCells b := fun a b => by simp [iCells]
  rw [e, e, ← iCells_len d, List.set_append_right _ _ (by omega)]
  congr 1
  rw [show (iCells d).length + 8 - (iCells d).length = 8 by omega]
  simp [iCells, icell]
set_option maxHeartbeats 4000000 in
theorem count_any {ys : List (Tok × Tok × Nat × Int)} {base : Nat} {v : Value} {w : World} (hrow : w.ownsRow base 163 10 v ys.length (iCells ys)) (hy : ys.length ≤ 1001) :
    Calls Tryz.prog 105 #[v] w fun e w' => e = .returned (.tuple #[]) ∧ w'.ownsRow base 163 10 v ys.length (iCells (numF 0 0 ys)) ∧ w.grownBy w' v.ownBlock := by
  have hsl : ∃ a cap, v = .slice a ys.length cap := by
    rcases hrow.2 with ⟨rfl, h0⟩ | ⟨g, cap, cur, rfl, _⟩
    · exact ⟨none, 0, by rw [h0]⟩
    · exact ⟨_, cap, rfl⟩
  obtain ⟨a, cap, rfl⟩ := hsl
  have hyl := hy
  clear hy
  generalize hn : ys.length = n at *
  have HN : Hid _ := hn
  clear hn
  have HW : Hid (w.ownsRow base 163 10 (.slice a n cap) n (iCells ys)) := hrow
  clear hrow
  have HNF : Hid (numF 0 0 ys = numF 0 0 ys) := rfl
  generalize hnf : numF 0 0 ys = nf at *
  have HF : Hid _ := hnf
  clear hnf HNF
  go_enter Tryz.func105, Tryz.ntmps105
  go_wp2_with fail
  go_loopw [2, 3, 7] (fun lv rv kv wr => ∃ (k l r : Nat) (d rest : List (Tok × Tok × Nat × Int)), k ≤ n ∧ l ≤ k ∧ r ≤ k ∧ kv = .int .i64 k ∧ lv = .int .i64 l ∧ rv = .int .i64 r ∧ Hid (d.length = k ∧ k + rest.length = n ∧ nf = d ++ numF l r rest ∧ wr.ownsRow base 163 10 (.slice a n cap) n (iCells (d ++ rest)) ∧ w.grownBy wr (Value.slice a n cap).ownBlock)) (fun _ _ kv _ => n - (intOf kv).toNat)
  case atStart => exact ⟨0, 0, 0, [], ys, Nat.zero_le _, Nat.zero_le _, Nat.zero_le _, rfl, rfl, rfl, rfl, by rw [Nat.zero_add]; exact HN.out, HF.out.symm, HW.out, World.grownBy.refl _ _⟩
  case round =>
    obtain ⟨k, l, r, d, rest, hk, hl, hr, rfl, rfl, rfl, HI⟩ := hrel
    by_cases hlt : k < n
    · obtain ⟨h1, h2, h3, h4, h5⟩ := HI.out
      clear HI
      cases rest with
      | nil => simp at h2; omega
      | cons y q =>
        have hown := h4
        rcases h4.2 with ⟨_, h0⟩ | ⟨g, cap', cur, e, hb, hg, _⟩
        · omega
        · simp only [Value.slice.injEq, true_and] at e
          obtain ⟨rfl, rfl⟩ := e
          have hcell : ∀ j, j < 10 → wr.cell? ⟨g, k * 10 + j, none⟩ = (icell y)[j]? := fun j hj => by
            have hown' : wr.ownsRow base 163 10 (.slice (some ⟨g, 0, none⟩) (d ++ y :: q).length cap) (d ++ y :: q).length (iCells (d ++ y :: q)) := by
              have e : (d ++ y :: q).length = n := by simp at h2 ⊢; omega
              rw [e]; exact hown
            obtain ⟨a', cap', e, hc⟩ := row_cells hown'
            obtain ⟨g', e', _, hc⟩ := hc k (by simp; omega)
            simp only [Value.slice.injEq, true_and] at e
            rw [← e.1] at e'
            simp at e'
            rw [← e'] at hc
            have e3 : (d ++ y :: q).getD k (zTok, zTok, 0, 0) = y := by
              rw [List.getD_eq_getElem?_getD, List.getElem?_append_right (by omega), h1]; simp
            rw [e3] at hc
            exact hc j hj
          have c0 : wr.cell? ⟨g, k * 10, none⟩ = some (.int .i64 (kindOf y.1)) := hcell 0 (by omega)
          have c8 : wr.cell? ⟨g, k * 10 + 8, none⟩ = some (.int .i64 y.2.2.2) := hcell 8 (by omega)
          have hfz : ∀ j, wr.frozen? ⟨g, j, none⟩ = false := fun j => by simp [World.frozen?, hg]
          have hset := fun (m : Int) => row_setCell hown (j := k * 10 + 8) (by omega) (.int .i64 m)
          have hset2 := fun (m : Int) => iCells_set d y q m
          rw [h1] at hset2
          have HS : Hid (∀ m : Int, (wr.setCell ⟨g, k * 10 + 8, none⟩ (.int .i64 m)).ownsRow base 163 10 (.slice (some ⟨g, 0, none⟩) n cap) n (iCells (d ++ (y.1, y.2.1, y.2.2.1, m) :: q)) ∧ w.grownBy (wr.setCell ⟨g, k * 10 + 8, none⟩ (.int .i64 m)) (Value.slice (some ⟨g, 0, none⟩) n cap).ownBlock) := fun m => ⟨by rw [← hset2 m]; exact hset m, grown_set h5 _ _⟩
          have H3 : Hid _ := h3
          have H1 : Hid _ := h1
          have H2 : Hid _ := h2
          clear hset hset2 hown h4 h5 h3 h1 h2 hcell hg
          by_cases hk11 : kindOf y.1 = 11
          · rw [hk11] at c0
            go_wp2_with fail
            go_roundw
            case rel =>
              refine ⟨k + 1, l + 1, r, d ++ [(y.1, y.2.1, y.2.2.1, (l : Int))], q, by omega, by omega, by omega, by simp, by simp, rfl, by simp [H1.out], by have := H2.out; simp at this; omega, ?_, ?_, (HS.out l).2⟩
              · rw [H3.out, numF, if_pos hk11]; simp
              · have := (HS.out l).1
                simpa using this
            case measure => simp [intOf]; omega
          · have hk2 : ((kindOf y.1 : Int) == (11 : Int)) = false := by
              have : ¬ ((kindOf y.1 : Int) = 11) := by omega
              simpa using this
            have HK : Hid _ := hk11
            clear hk11
            generalize kindOf y.1 = kd at c0 hk2
            go_wp2_with fail
            go_roundw
            case rel =>
              refine ⟨k + 1, l, r + 1, d ++ [(y.1, y.2.1, y.2.2.1, ((r + 1 : Nat) : Int))], q, by omega, by omega, by omega, by simp, rfl, by simp, by simp [H1.out], by have := H2.out; simp at this; omega, ?_, ?_, ?_⟩
              · rw [H3.out, numF, if_neg HK.out]; simp
              · have := (HS.out ((r + 1 : Nat) : Int)).1
                simpa using this
              · have := (HS.out ((r + 1 : Nat) : Int)).2
                simpa using this
            case measure => simp [intOf]; omega
    · have hke : k = n := by omega
      subst hke
      obtain ⟨h1, h2, h3, h4, h5⟩ := HI.out
      have hr : rest = [] := by cases rest with
        | nil => rfl
        | cons y q => simp at h2
      subst hr
      have HE : Hid (wr.ownsRow base 163 10 (.slice a k cap) k (iCells nf) ∧ w.grownBy wr (Value.slice a k cap).ownBlock) := ⟨by rw [h3]; exact h4, h5⟩
      clear h1 h2 h3 h4 h5 HI
      go_wp2_with fail
      go_end0
      exact ⟨rfl, HE.out⟩
end Go.Proofs.YtfkdailfcmnjlaaGreatDoor

namespace Go.Proofs.YtfkdailfcmnjlaaGreatDoor
open Go Go.RowKit
set_option maxRecDepth 100000
attribute [local go_sem ↓] Go.wp_at_zero Go.wp_at_succ

/-- What reading all items answers. -/
def ParseAns (ts : List Tok) (R : AllR) (w : World) (e : Ending) (w' : World) : Prop :=
  Below w.heap.size w w' ∧ ((R.ok = false ∧ e = .returned (.tuple #[.slice none 0 0, .int .i64 (tokAt ts R.i).pl, .bool false])) ∨
    (R.ok = true ∧ ∃ v ys, e = .returned (.tuple #[v, .int .i64 0, .bool true]) ∧ ys.length ≤ 1001 ∧ w'.ownsRow w.heap.size 163 10 v ys.length (iCells ys) ∧ ItemsAt (CondAt R.L w.heap.size w') R.xs ys ∧ Numb 0 0 R.xs ys))
/-- The state ahead of a round. -/
def Rnd (F rb gl cl : Nat) (ts : List Tok) (R : AllR) (lo : Nat) (v : Value) (wr : World) : Prop :=
  (∃ (i : Nat) (L : List Pt) (xs : List Itm) (g : Nat) (ys : List (Tok × Tok × Nat × Int)), RR rb gl cl ts ⟨i, false, 0⟩ wr ∧ parseAll F ts g i L xs = some R ∧ ys.length ≤ i ∧ wr.ownsRow lo 163 10 v ys.length (iCells ys) ∧ ItemsAt (CondAt L rb wr) xs ys) ∨
  (R.ok = false ∧ RR rb gl cl ts (failQ ts ⟨R.i, false, 0⟩) wr)

set_option maxHeartbeats 4000000 in
theorem parse_any {F g gl cl : Nat} {ts : List Tok} {R : AllR} {w : World} (hW : ∀ t ∈ ts, TokW t) (hN : ∀ t ∈ ts, t.k = 111 → t.text ≠ []) (hn : 0 < ts.length) (hn1 : ts.length ≤ 1001) (hfin : kindOf (tokAt ts (ts.length - 1)) = 0)
    (wl : ∃ cs, w.heap[gl]? = some (.cells cs 160 (0, 0)))
    (wc : ∀ i, i < ts.length → w.cell? ⟨gl, i * 4, none⟩ = some (.int .i64 (kindOf (tokAt ts i))) ∧ w.cell? ⟨gl, i * 4 + 1, none⟩ = some (.int .i64 (tokAt ts i).pl) ∧ w.cell? ⟨gl, i * 4 + 2, none⟩ = some (.int .i64 (nmOf (tokAt ts i))) ∧ w.cell? ⟨gl, i * 4 + 3, none⟩ = some (S (ownOf (tokAt ts i))))
    (hR : parseAll F ts g 0 [] [] = some R) :
    Calls Tryz.prog 56 #[.slice (some ⟨gl, 0, none⟩) ts.length cl] w (ParseAns ts R w) := by
  obtain ⟨i0, hi, hz0, hz1, hz2⟩ := info_parts info_pitem
  have hgl : gl < w.heap.size := lt_of_get wl.choose_spec
  have hb0 : Below w.heap.size w (w.alloc (rdObj gl ts.length cl ⟨0, false, 0⟩)) := (Below.refl _ _).alloc (Nat.le_refl _) _
  have h0 : RR w.heap.size gl cl ts ⟨0, false, 0⟩ (w.alloc (rdObj gl ts.length cl ⟨0, false, 0⟩)) := by
    refine ⟨heap_alloc_new w _, ?_, fun i hi => ?_, hn, hn1, hfin⟩
    · rw [hb0.block _ hgl]; exact wl
    · have e : ∀ j, (w.alloc (rdObj gl ts.length cl ⟨0, false, 0⟩)).cell? ⟨gl, j, none⟩ = w.cell? ⟨gl, j, none⟩ := fun j => World.cell?_of_block (w := w) (hb0.block _ hgl)
      rw [e, e, e, e]; exact wc i hi
  have hrnd : Rnd F w.heap.size gl cl ts R w.heap.size (.slice none 0 0) (w.alloc (rdObj gl ts.length cl ⟨0, false, 0⟩)) :=
    .inl ⟨0, [], [], g, [], h0, hR, by simp, World.ownsRow_nil _ _ _ _, trivial⟩
  have HFM : Hid _ := (forms (rb := w.heap.size) (gl := gl) (cl := cl) hW F).1
  have HW : Hid _ := hW
  have HN : Hid _ := hN
  clear h0 hR wl wc hW hN
  unfold rdObj at hb0 hrnd
  go_enter Tryz.func56, Tryz.ntmps56
  go_wp2_with fail
  generalize w.alloc (.cells #[.slice (some ⟨gl, 0, none⟩) ts.length cl, .int .i64 (0 : Nat), .bool false, .int .i64 (0 : Nat)] 213 (0, 0)) = wz at hb0 hrnd
  generalize hrb : w.heap.size = rb at *
  go_loopw [6] (fun v wr => Rnd F rb gl cl ts R rb v wr ∧ Below rb w wr) (fun _ wr => ts.length - rdI2 rb wr)
  case atStart => exact ⟨hrnd, hb0⟩
  case round =>
    obtain ⟨hrd, hbw⟩ := hrel
    rcases hrd with ⟨i, L, xs, g', ys, hr, hp, hyl, hown, hit⟩ | ⟨rok, hr⟩
    · have ht := HW.out _ (tokAt_mem hr.lt)
      simp only [] at ht
      have HK := kind_any hr
      simp only [] at HK
      by_cases hk : kindOf (tokAt ts i) = 0
      · have hRe := parse_end hp ((kind_end ht).1 hk)
        subst hRe
        rw [hk] at HK
        obtain ⟨⟨r0, r1, r2, r3⟩, rf⟩ := hr.drew.cells
        have hown0 : wr.drew.ownsRow rb 163 10 u6 ys.length (iCells ys) := hown
        have hyl2 : ys.length ≤ 1001 := by have := hr.lt; have := hr.nb; simp only [] at *; omega
        have WC := count_any hown0 hyl2
        have HA : Hid (∀ w', w'.ownsRow rb 163 10 u6 ys.length (iCells (numF 0 0 ys)) → wr.drew.grownBy w' u6.ownBlock → ParseAns ts ⟨true, i, L, xs⟩ w (.returned (.tuple #[u6, .int .i64 0, .bool true])) w') := fun w' ho hg => by
          have hbn : ∀ q, u6.ownBlock = some q → rb ≤ q := fun q hq => by
            rcases hown0.2 with ⟨e, _⟩ | ⟨g, c, cur, e, hb, _⟩
            · rw [e] at hq; simp [Value.ownBlock] at hq
            · rw [e] at hq; simp [Value.ownBlock] at hq; omega
          have hB : Below w.heap.size w w' := ⟨hg.os.trans hbw.drew.os, hg.tape.trans hbw.drew.tape, hg.output.trans hbw.drew.output, Nat.le_trans hbw.drew.size hg.size, fun q hq => by
            rw [hrb] at hq
            rw [hg.block q (by have := hbw.drew.size; omega) (fun e => by have := hbn q e.symm; omega)]
            exact hbw.drew.block q hq⟩
          obtain ⟨n1, n2⟩ := numb_ok 0 0 hit
          refine ⟨hB, .inr ⟨rfl, u6, numF 0 0 ys, rfl, by rw [numF_len]; exact hyl2, ?_, ?_, n1⟩⟩
          · rw [hrb, numF_len]; exact ho
          · rw [hrb]; exact n2.mono fun i b h => (h.keep fun k _ _ _ _ => rfl : CondAt L rb wr.drew i b).grown hown0 hg
        clear hown hit hp ht hr hown0
        go_wp2_with fail
        refine HK.mono ?_
        rintro e w' ⟨rfl, rfl⟩
        clear HK
        go_wp2_with fail
        refine WC.mono ?_
        rintro e w' ⟨rfl, ho, hg⟩
        clear WC
        have HA2 : Hid (ParseAns ts ⟨true, i, L, xs⟩ w (.returned (.tuple #[u6, .int .i64 0, .bool true])) w') := HA.out w' ho hg
        clear HA ho hg
        go_wp2_with fail
        refine bodyPost_ret (v := .tuple #[u6, .int .i64 0, .bool true]) (by simp [results, Tryz.results56, go_sem]) rfl ?_
        exact HA2.out
      · obtain ⟨r, g2, hrI, hcase⟩ := parse_step hp fun e => hk ((kind_end ht).2 e)
        have hmore := hr.more (by simpa using hk)
        have hk2 : ((kindOf (tokAt ts i) : Int) == (0 : Int)) = false := by
          have : ¬ ((kindOf (tokAt ts i) : Int) = 0) := by omega
          simpa using this
        have HIt := pitem_any HFM.out HW.out HN.out hr.drew rfl hrI
        have hown0 : wr.drew.ownsRow rb 163 10 u6 ys.length (iCells ys) := hown
        have hlt := hr.lt
        have hnb := hr.nb
        simp only [] at hlt hmore
        have HR : Hid _ := hr
        have HCs : Hid _ := hcase
        have HT : Hid _ := hit
        have HI : Hid _ := hrI
        clear hp ht hown hr hcase hit hrI
        generalize kindOf (tokAt ts i) = kd at *
        go_wp2_with fail
        refine HK.mono ?_
        rintro e w' ⟨rfl, rfl⟩
        clear HK
        go_wp2_with fail
        refine HIt.mono ?_
        rintro e w1 ⟨t, u, b, rfl, F1, hL⟩
        clear HIt
        have hown1 := ownsRow_pf HR.out.drew hown0 F1
        have hbw1 : Below rb w w1 := ⟨F1.os.trans hbw.drew.os, F1.tape.trans hbw.drew.tape, F1.output.trans hbw.drew.output, Nat.le_trans hbw.drew.size F1.size, fun k hk => (F1.block k (by have := hbw.drew.size; omega) (by omega)).trans (hbw.drew.block k hk)⟩
        have hs1 := hbw1.size
        have HL : Hid _ := hL
        have HF1 : Hid _ := F1
        clear hL F1 hown0
        unfold itV
        go_wp2_with (
          at_builtin
          go_must (refine wpList_append_lies _ (by rfl) _ _ 84 (by rfl) rb 163 i0 (.agg #[.int .i64 0, .int .i64 0, .int .i64 0, .string ⟨#[]⟩, .int .i64 0, .int .i64 0, .int .i64 0, .string ⟨#[]⟩, .int .i64 0, .pointer none]) 10 96 Tryz.underlying84 hi hz0 hz1 hz2 (by rfl) (by decide) _ _ _ (by rfl) (hown1.alloc _) ⟨w1.heap.size, 0, none⟩ 1 1 (icell (t, u, b, 0)) (by rfl) (by rfl) (World.news_of_block (heap_alloc_new w1 _)) (fun x hx => by simp [icell] at hx; rcases hx with rfl | rfl | rfl | rfl | rfl | rfl | rfl | rfl | rfl | rfl <;> rfl) (by decide) (by unfold maxLen; omega) (by omega) (by simp; omega) _ rfl ?_)
          intro g3 cap w3 hown3 hgrow3 hat hlt3)
        have hbw3 : Below rb w w3 := by subst hrb; exact below_far1 hbw1 hown1 hgrow3
        rcases HL.out with ⟨ok, h1, hc, hio⟩ | ⟨ok, h1⟩
        · have ha := h1.apart hown1
          have h3 := (h1.alloc _).grown hgrow3 ha.1 ha.2
          obtain ⟨hfw, hnew⟩ := item_fwd HI.out ok
          refine ⟨⟨.inl ⟨r.i, r.L, xs ++ [r.it], g2, ys ++ [(t, u, b, 0)], h3, ?_, by simp; omega, ?_, ?_⟩, hbw3⟩, ?_⟩
          · rcases HCs.out with ⟨_, hp⟩ | ⟨no, _⟩
            · exact hp
            · rw [ok] at no; simp at no
          · rw [iCells_snoc]; simpa using hown3
          · refine ItemsAt.snoc (((hc.grow ((Below.refl _ _).alloc (Nat.le_refl _) _)).grown (hown1.alloc _) hgrow3)) hio (HT.out.mono fun i b h => ?_)
            exact (more_at ((h.pf HR.out (PF.refl rb wr).drew).pf HR.out.drew HF1.out) hnew).grow ((Below.refl _ _).alloc (Nat.le_refl _) _) |>.grown (hown1.alloc _) hgrow3
          · rw [rdI2_eq h3, rdI2_eq HR.out]; have := h3.lt; simp only [] at *; omega
        · have ha := h1.apart hown1
          have h3 := (h1.alloc _).grown hgrow3 ha.1 ha.2
          refine ⟨⟨.inr ?_, hbw3⟩, ?_⟩
          · rcases HCs.out with ⟨yes, _⟩ | ⟨_, rfl⟩
            · rw [ok] at yes; simp at yes
            · exact ⟨rfl, h3⟩
          · rw [rdI2_eq h3, rdI2_eq HR.out]; simp only [failQ]; omega
    · have HK := kind_any hr
      have hk : kindOf (tokAt ts (failQ ts ⟨R.i, false, 0⟩).i) = 0 := by rw [show (failQ ts ⟨R.i, false, 0⟩).i = ts.length - 1 from rfl]; exact hr.fin
      rw [hk] at HK
      obtain ⟨⟨r0, r1, r2, r3⟩, rf⟩ := hr.drew.cells
      have HA : Hid (ParseAns ts R w (.returned (.tuple #[.slice none 0 0, .int .i64 (tokAt ts R.i).pl, .bool false])) wr.drew.drew) :=
        ⟨by rw [hrb]; exact hbw.drew.drew, .inl ⟨rok, rfl⟩⟩
      simp only [failQ] at r0 r1 r2 r3
      rw [if_neg (by simp)] at r3
      clear hr hk
      generalize (tokAt ts R.i).pl = pp at *
      go_wp2_with fail
      refine HK.mono ?_
      rintro e w' ⟨rfl, rfl⟩
      clear HK
      go_wp2_with fail
      go_region_held (fun w' => w'.cell? ⟨rb, 3, none⟩ = some (.int .i64 pp)) (go_keep) (fail)
      go_wp2_with fail
      refine bodyPost_ret (v := .tuple #[.slice none 0 0, .int .i64 pp, .bool false]) (by simp [results, Tryz.results56, go_sem]) rfl ?_
      exact HA.out
end Go.Proofs.YtfkdailfcmnjlaaGreatDoor

namespace Go.Proofs.YtfkdailfcmnjlaaGreatDoor
open Go Go.RowKit
set_option maxRecDepth 100000
attribute [local go_sem ↓] Go.wp_at_zero Go.wp_at_succ
variable {bs : Nat}

/-- The part of a list lies at a block as the program's tree; what is said of each note. -/
structure CondS (bs : Nat) (L : List Pt) (N : Tok → Int → Prop) (w : World) (i b : Nat) : Prop where
  lay ::
  out : ∀ C : Nat → Nat → Prop, (∀ (i b : Nat) (u : Value) (n : Int) (bl : Nat → Nat), i < L.length → bs ≤ b → N (L.getD i noPt).tok n → w.heap[b]? = some (cdObj (L.getD i noPt).tok u n) → UnderAt w u (L.getD i noPt).subs.length bl →
    (∀ j, j < (L.getD i noPt).subs.length → C ((L.getD i noPt).subs.getD j 0) (bl j)) → C i b) → C i b
theorem CondS.mk {L : List Pt} {N : Tok → Int → Prop} {w : World} (i b : Nat) (u : Value) (n : Int) (bl : Nat → Nat) (hi : i < L.length) (hlo : bs ≤ b) (hn : N (L.getD i noPt).tok n) (hb : w.heap[b]? = some (cdObj (L.getD i noPt).tok u n))
    (hu : UnderAt w u (L.getD i noPt).subs.length bl) (hs : ∀ j, j < (L.getD i noPt).subs.length → CondS bs L N w ((L.getD i noPt).subs.getD j 0) (bl j)) : CondS bs L N w i b :=
  ⟨fun C hC => hC i b u n bl hi hlo hn hb hu fun j hj => (hs j hj).out C hC⟩
theorem CondS.ind {L : List Pt} {N : Tok → Int → Prop} {w : World} (M : Nat → Nat → Prop)
    (hM : ∀ (i b : Nat) (u : Value) (n : Int) (bl : Nat → Nat), i < L.length → bs ≤ b → N (L.getD i noPt).tok n → w.heap[b]? = some (cdObj (L.getD i noPt).tok u n) → UnderAt w u (L.getD i noPt).subs.length bl →
      (∀ j, j < (L.getD i noPt).subs.length → CondS bs L N w ((L.getD i noPt).subs.getD j 0) (bl j)) → (∀ j, j < (L.getD i noPt).subs.length → M ((L.getD i noPt).subs.getD j 0) (bl j)) → M i b)
    {i b : Nat} (h : CondS bs L N w i b) : M i b :=
  (h.out (fun i b => CondS bs L N w i b ∧ M i b) fun i b u n bl hi hlo hn hb hu hs => ⟨.mk i b u n bl hi hlo hn hb hu fun j hj => (hs j hj).1, hM i b u n bl hi hlo hn hb hu (fun j hj => (hs j hj).1) fun j hj => (hs j hj).2⟩).2
theorem CondS.inv {L : List Pt} {N : Tok → Int → Prop} {w : World} {i b : Nat} (h : CondS bs L N w i b) : ∃ (u : Value) (n : Int) (bl : Nat → Nat), i < L.length ∧ bs ≤ b ∧ N (L.getD i noPt).tok n ∧ w.heap[b]? = some (cdObj (L.getD i noPt).tok u n) ∧ UnderAt w u (L.getD i noPt).subs.length bl ∧ ∀ j, j < (L.getD i noPt).subs.length → CondS bs L N w ((L.getD i noPt).subs.getD j 0) (bl j) :=
  h.ind (fun i b => ∃ (u : Value) (n : Int) (bl : Nat → Nat), i < L.length ∧ bs ≤ b ∧ N (L.getD i noPt).tok n ∧ w.heap[b]? = some (cdObj (L.getD i noPt).tok u n) ∧ UnderAt w u (L.getD i noPt).subs.length bl ∧ ∀ j, j < (L.getD i noPt).subs.length → CondS bs L N w ((L.getD i noPt).subs.getD j 0) (bl j)) fun _ _ u n bl hi hlo hn hb hu hs _ => ⟨u, n, bl, hi, hlo, hn, hb, hu, hs⟩
theorem CondAt.toS {L : List Pt} {w : World} {i b : Nat} (h : CondAt L bs w i b) {N : Tok → Int → Prop} (hN : ∀ k, k < L.length → N (L.getD k noPt).tok 0) : CondS bs L N w i b :=
  h.ind (fun i b => CondS bs L N w i b) fun i b u bl hi hlo hb hu _ _ ih => .mk i b u 0 bl hi hlo (hN i hi) hb hu ih
theorem CondS.keep {L : List Pt} {N : Tok → Int → Prop} {w w' : World} {i b : Nat} (h : CondS bs L N w i b)
    (hk : ∀ (k : Nat) (cs : Array Value) (ty : TypeId), w.heap[k]? = some (Obj.cells cs ty (0, 0)) → ty = 229 ∨ ty = 161 → w'.heap[k]? = w.heap[k]?) : CondS bs L N w' i b := by
  refine h.ind (fun i b => CondS bs L N w' i b) ?_
  · intro i b u n bl hi hlo hn hb hu hs ih
    refine .mk i b u n bl hi hlo hn ?_ ?_ ih
    · rw [hk b _ _ hb (.inl rfl)]; exact hb
    · rcases hu with hu | ⟨h0, g, h1, h2⟩
      · exact .inl hu
      · exact .inr ⟨h0, g, h1, by rw [hk g _ _ h2 (.inr rfl)]; exact h2⟩
theorem CondS.grow {L : List Pt} {N : Tok → Int → Prop} {w w' : World} {i b : Nat} (h : CondS bs L N w i b) (hb : Below w.heap.size w w') : CondS bs L N w' i b :=
  h.keep fun k _ _ hk _ => hb.block k (lt_of_get hk)

theorem cd_cells {w : World} {b : Nat} {t : Tok} {u : Value} {n : Int} (h : w.heap[b]? = some (cdObj t u n)) : (w.cell? ⟨b, 0, none⟩ = some (.int .i64 (kindOf t)) ∧ w.cell? ⟨b, 1, none⟩ = some (.int .i64 t.pl) ∧ w.cell? ⟨b, 2, none⟩ = some (.int .i64 (nmOf t)) ∧ w.cell? ⟨b, 3, none⟩ = some (S (ownOf t)) ∧ w.cell? ⟨b, 4, none⟩ = some u ∧ w.cell? ⟨b, 5, none⟩ = some (.int .i64 n)) ∧ ∀ j, w.frozen? ⟨b, j, none⟩ = false := by
  have hc := fun j => cell_of_row w b j _ _ _ h
  exact ⟨⟨hc 0, hc 1, hc 2, hc 3, hc 4, hc 5⟩, fun j => by simp [World.frozen?, h, cdObj]⟩
theorem under_cell {w : World} {g n : Nat} {bl : Nat → Nat} (h : w.heap[g]? = some (.cells ((List.range n).map fun j => Value.pointer (some ⟨bl j, 0, none⟩)).toArray 161 (0, 0))) (j : Nat) (hj : j < n) : w.cell? ⟨g, j, none⟩ = some (.pointer (some ⟨bl j, 0, none⟩)) := by
  rw [cell_of_row w g j _ _ _ h]
  simp [hj]
/-- The list under a part, as a slice. -/
theorem UnderAt.slice {w : World} {u : Value} {n : Nat} {bl : Nat → Nat} (h : UnderAt w u n bl) : ∃ a, u = .slice a n n ∧ ∀ j, j < n → ∃ g, a = some ⟨g, 0, none⟩ ∧ w.heap[g]? = some (.cells ((List.range n).map fun j => Value.pointer (some ⟨bl j, 0, none⟩)).toArray 161 (0, 0)) := by
  rcases h with ⟨rfl, rfl⟩ | ⟨h0, g, rfl, hg⟩
  · exact ⟨none, rfl, fun j hj => by omega⟩
  · exact ⟨_, rfl, fun j _ => ⟨g, rfl, hg⟩⟩
theorem sumOf_take (F : Nat → Nat) (l : List Nat) (k : Nat) (hk : k < l.length) : sumOf F (l.take (k + 1)) = sumOf F (l.take k) + F (l.getD k 0) := by
  induction l generalizing k with
  | nil => simp at hk
  | cons x l ih =>
    cases k with
    | zero => simp [sumOf]
    | succ k => simp only [List.take_succ_cons, sumOf, List.getD_cons_succ]; rw [ih k (by simpa using hk)]; omega
theorem sumOf_le (F : Nat → Nat) (l : List Nat) (k : Nat) : sumOf F (l.take k) ≤ sumOf F l := by
  induction l generalizing k with
  | nil => simp [sumOf]
  | cons x l ih =>
    cases k with
    | zero => simp [sumOf]
    | succ k => simp only [List.take_succ_cons, sumOf]; have := ih k; omega

set_option maxHeartbeats 4000000 in
theorem parts_any {L : List Pt} {N : Tok → Int → Prop} (hL : L.length ≤ 5000) (f : Nat) : ∀ {lo i b : Nat} {w : World}, TreeF f L lo i → CondS bs L N w i b →
    Calls Tryz.prog 106 #[.pointer (some ⟨b, 0, none⟩)] w fun e w' => e = .returned (.int .i64 (cnt f L i)) ∧ Below w.heap.size w w' := by
  induction f with
  | zero => intro lo i b w h; exact h.elim
  | succ f ih =>
    intro lo i b w hT hC
    have hcnt := hT.cnt
    have hle := hT.le
    have hlt := hT.lt
    obtain ⟨u, n, bl, hi, hlo, hn, hb, hu, hs⟩ := hC.inv
    obtain ⟨⟨c0, c1, c2, c3, c4, c5⟩, cf⟩ := cd_cells hb
    rw [cnt] at hcnt
    obtain ⟨a, rfl, ha⟩ := hu.slice
    have hn3 : (L.getD i noPt).subs.length ≤ 3 := by
      rcases hT.2.1 with ⟨_, h1⟩ | ⟨_, h1⟩ | ⟨_, h1⟩ | ⟨m, _, _, h1⟩
      · rw [h1]; simp
      all_goals omega
    have hsub := forest_mem _ hT.2.2
    have HS : Hid _ := hs
    have HT : Hid _ := hsub
    have HA : Hid _ := ha
    clear hs hb hu hT hsub ha hn
    generalize hjs : (L.getD i noPt).subs = js at *
    have HJS : Hid _ := hjs
    clear hjs
    go_enter Tryz.func106, Tryz.ntmps106
    go_wp2_with fail
    go_loopw [3, 11] (fun nv kv wr => ∃ k, k ≤ js.length ∧ kv = .int .i64 k ∧ nv = .int .i64 (1 + sumOf (cnt f L) (js.take k) : Nat) ∧ Below w.heap.size w wr) (fun _ kv _ => js.length - (intOf kv).toNat)
    case atStart => exact ⟨0, Nat.zero_le _, rfl, rfl, Below.refl _ _⟩
    case round =>
      obtain ⟨k, hk, rfl, rfl, hbw⟩ := hrel
      have hsl := sumOf_le (cnt f L) js k
      by_cases hlt : k < js.length
      · obtain ⟨g, rfl, hg⟩ := HA.out k hlt
        have hg' : wr.heap[g]? = _ := (hbw.block g (lt_of_get hg)).trans hg
        have hcell := under_cell hg' k hlt
        have htk := sumOf_take (cnt f L) js k hlt
        have hsl2 := sumOf_le (cnt f L) js (k + 1)
        obtain ⟨lo', hT'⟩ := HT.out (js.getD k 0) (by rw [List.getD_eq_getElem?_getD, List.getElem?_eq_getElem hlt]; exact List.getElem_mem hlt)
        have HI := ih hT' ((HS.out k hlt).grow hbw)
        clear hg hg' hT'
        rw [htk] at hsl2
        have HTK : Hid _ := htk
        clear htk
        generalize sumOf (cnt f L) (js.take k) = A at *
        generalize cnt f L (js.getD k 0) = X at *
        go_wp2_with fail
        refine HI.mono ?_
        rintro e w1 ⟨rfl, hb1⟩
        clear HI
        go_wp2_with fail
        go_roundw
        case rel =>
          refine ⟨k + 1, by omega, by simp, ?_, hbw.trans (hb1.mono hbw.size)⟩
          rw [HTK.out]
          simp
          omega
        case measure => simp [intOf]; omega
      · have hke : k = js.length := by omega
        subst hke
        rw [List.take_length] at *
        go_wp2_with fail
        go_ret
        exact ⟨by rw [cnt, HJS.out]; rfl, hbw⟩
end Go.Proofs.YtfkdailfcmnjlaaGreatDoor

namespace Go.Proofs.YtfkdailfcmnjlaaGreatDoor
open Go Go.RowKit
set_option maxRecDepth 100000
attribute [local go_sem ↓] Go.wp_at_zero Go.wp_at_succ
variable {bs : Nat}

set_option maxHeartbeats 4000000 in
theorem pdepth_any {L : List Pt} {N : Tok → Int → Prop} (f : Nat) (hf : f ≤ 5001) : ∀ {lo i b : Nat} {w : World}, TreeF f L lo i → CondS bs L N w i b →
    Calls Tryz.prog 108 #[.pointer (some ⟨b, 0, none⟩)] w fun e w' => e = .returned (.int .i64 (dep f L i)) ∧ Below w.heap.size w w' := by
  induction f with
  | zero => intro lo i b w h; exact h.elim
  | succ f ih =>
    intro lo i b w hT hC
    have ih := @ih (by omega)
    have hdb := dep_bound (f + 1) L i
    have hle := hT.le
    have hlt := hT.lt
    obtain ⟨u, n, bl, hi, hlo, hn, hb, hu, hs⟩ := hC.inv
    obtain ⟨⟨c0, c1, c2, c3, c4, c5⟩, cf⟩ := cd_cells hb
    obtain ⟨a, rfl, ha⟩ := hu.slice
    have hn3 : (L.getD i noPt).subs.length ≤ 3 := by
      rcases hT.2.1 with ⟨_, h1⟩ | ⟨_, h1⟩ | ⟨_, h1⟩ | ⟨m, _, _, h1⟩
      · rw [h1]; simp
      all_goals omega
    have hsub := forest_mem _ hT.2.2
    have HS : Hid _ := hs
    have HT : Hid _ := hsub
    have HA : Hid _ := ha
    clear hs hb hu hT hsub ha hn
    generalize hjs : (L.getD i noPt).subs = js at *
    have HJS : Hid _ := hjs
    clear hjs
    go_enter Tryz.func108, Tryz.ntmps108
    go_wp2_with fail
    go_loopw [3, 11] (fun nv kv wr => ∃ k, k ≤ js.length ∧ kv = .int .i64 k ∧ nv = .int .i64 (foldMax (dep f L) (js.take k) : Nat) ∧ Below w.heap.size w wr) (fun _ kv _ => js.length - (intOf kv).toNat)
    case atStart => exact ⟨0, Nat.zero_le _, rfl, by simp [foldMax], Below.refl _ _⟩
    case round =>
      obtain ⟨k, hk, rfl, rfl, hbw⟩ := hrel
      have hsl := foldMax_le (dep f L) (f + 1) (dep_bound f L) (js.take k)
      by_cases hlt : k < js.length
      · obtain ⟨g, rfl, hg⟩ := HA.out k hlt
        have hg' : wr.heap[g]? = _ := (hbw.block g (lt_of_get hg)).trans hg
        have hcell := under_cell hg' k hlt
        have htk := foldMax_take (dep f L) js k hlt
        obtain ⟨lo', hT'⟩ := HT.out (js.getD k 0) (by rw [List.getD_eq_getElem?_getD, List.getElem?_eq_getElem hlt]; exact List.getElem_mem hlt)
        have HI := ih hT' ((HS.out k hlt).grow hbw)
        have hxb := dep_bound f L (js.getD k 0)
        rw [show js[k] = js.getD k 0 from by rw [List.getD_eq_getElem?_getD, List.getElem?_eq_getElem hlt]; rfl] at htk
        have HTK : Hid _ := htk
        clear hg hg' hT' htk
        generalize foldMax (dep f L) (js.take k) = A at *
        generalize dep f L (js.getD k 0) = X at *
        go_wp2_with fail
        refine HI.mono ?_
        rintro e w1 ⟨rfl, hb1⟩
        clear HI
        go_wp2_with fail
        go_roundw
        case rel =>
          refine ⟨k + 1, by omega, by simp, ?_, hbw.trans (hb1.mono hbw.size)⟩
          rw [HTK.out]
          simp
          omega
        case measure => simp [intOf]; omega
      · have hke : k = js.length := by omega
        subst hke
        rw [List.take_length] at *
        go_wp2_with fail
        go_ret
        refine ⟨?_, hbw⟩
        rw [dep, HJS.out]
        exact congrArg (fun n : Int => Ending.returned (Value.int .i64 n)) (show (1 : Int) + (foldMax (dep f L) js : Nat) = ((foldMax (dep f L) js + 1 : Nat) : Int) by omega)
end Go.Proofs.YtfkdailfcmnjlaaGreatDoor

namespace Go.Proofs.YtfkdailfcmnjlaaGreatDoor
open Go Go.RowKit
set_option maxRecDepth 100000
attribute [local go_sem ↓] Go.wp_at_zero Go.wp_at_succ
variable {bs : Nat}

/-- A place, if there is a fault. -/
def plcV : Option Nat → Value
  | some p => .tuple #[.int .i64 p, .bool false]
  | none => .tuple #[.int .i64 0, .bool true]
theorem pmany_step {L : List Pt} {x : Itm} {r : List Itm} {lets i lt : Nat} (hl : lt = lets + (if x.name == [] then 0 else 1)) : manyAt L (x :: r) lets i = if 10 < lt ∨ 20 < i + 1 - lt ∨ 200 < x.parts ∨ 20 < dep (x.top + 1) L x.top then some x.pl else manyAt L r lt (i + 1) := by
  rw [manyAt, ← hl]
theorem drop_head {α : Type} {l : List α} {k : Nat} (h : k < l.length) (d : α) : l.drop k = l.getD k d :: l.drop (k + 1) := by
  rw [List.drop_eq_getElem_cons h, List.getD_eq_getElem?_getD, List.getElem?_eq_getElem h]; rfl

set_option maxHeartbeats 2000000 in
theorem beyond_any (t u : Tok) (n : Int) (b : Nat) (w : World) :
    Calls Tryz.prog 107 #[itW t u n b] w fun e w' => e = .returned (.bool (if kindOf t = 11 then decide (10 ≤ n) else decide (20 < n))) ∧ Below w.heap.size w w' := by
  unfold itW
  have HB : Hid (Below w.heap.size w (w.alloc (.cells #[.int .i64 (kindOf t), .int .i64 t.pl, .int .i64 (nmOf t), S (ownOf t), .int .i64 (kindOf u), .int .i64 u.pl, .int .i64 (nmOf u), S (ownOf u), .int .i64 n, .pointer (some ⟨b, 0, none⟩)] 163 (0, 0)))) := (Below.refl w.heap.size w).alloc (Nat.le_refl _) _
  by_cases hk : kindOf t = 11
  · have HR : Hid ((if kindOf t = 11 then decide (10 ≤ n) else decide (20 < n)) = decide (10 ≤ n)) := by show _ = _; rw [if_pos hk]
    generalize (if kindOf t = 11 then decide (10 ≤ n) else decide (20 < n)) = r at *
    rw [hk] at HB ⊢
    clear hk
    generalize t.pl = q1 at *
    generalize nmOf t = q2 at *
    generalize ownOf t = q3 at *
    generalize kindOf u = q4 at *
    generalize u.pl = q5 at *
    generalize nmOf u = q6 at *
    generalize ownOf u = q7 at *
    go_enter Tryz.func107, Tryz.ntmps107
    go_wp2_with fail
    go_ret
    exact ⟨by rw [HR.out]; rfl, HB.out⟩
  · have HR : Hid ((if kindOf t = 11 then decide (10 ≤ n) else decide (20 < n)) = decide (20 < n)) := by show _ = _; rw [if_neg hk]
    generalize (if kindOf t = 11 then decide (10 ≤ n) else decide (20 < n)) = r at *
    have hk2 : ((kindOf t : Int) == (11 : Int)) = false := by
      have : ¬ ((kindOf t : Int) = 11) := by omega
      simpa using this
    clear hk
    generalize kindOf t = q0 at *
    generalize t.pl = q1 at *
    generalize nmOf t = q2 at *
    generalize ownOf t = q3 at *
    generalize kindOf u = q4 at *
    generalize u.pl = q5 at *
    generalize nmOf u = q6 at *
    generalize ownOf u = q7 at *
    go_enter Tryz.func107, Tryz.ntmps107
    go_wp2_with fail
    go_ret
    exact ⟨by rw [HR.out]; rfl, HB.out⟩

set_option maxHeartbeats 8000000 in
theorem fit_any {L : List Pt} {N : Tok → Int → Prop} (hL : L.length ≤ 5000) {xs : List Itm} {ys : List (Tok × Tok × Nat × Int)} {base : Nat} {v : Value} {w : World} (hrow : w.ownsRow base 163 10 v ys.length (iCells ys)) (hy : ys.length ≤ 1001)
    (hit : ItemsAt (CondS bs L N w) xs ys) (htr : TreesAt L xs 0) (hnu : Numb 0 0 xs ys) :
    Calls Tryz.prog 57 #[v] w fun e w' => e = .returned (plcV (manyAt L xs 0 0)) ∧ Below w.heap.size w w' := by
  obtain ⟨a, cap, rfl, hcell⟩ := row_cells hrow
  have hlen : Hid _ := hit.len
  have HC : Hid _ := hcell
  have HT : Hid _ := hit
  have HTR : Hid _ := htr
  have HNU : Hid _ := hnu
  clear hrow hcell hit htr hnu
  go_enter Tryz.func57, Tryz.ntmps57
  go_wp2_with fail
  go_loopw [4, 9] (fun pv kv wr => ∃ k lets fr, k ≤ ys.length ∧ kv = .int .i64 k ∧ pv = .int .i64 (fr : Nat) ∧ lets ≤ k ∧ fr ≤ L.length ∧ Hid (manyAt L xs 0 0 = manyAt L (xs.drop k) lets k) ∧ Hid (TreesAt L (xs.drop k) fr) ∧ Hid (ItemsAt (CondS bs L N w) (xs.drop k) (ys.drop k)) ∧ Hid (lets ≤ 10 ∧ k - lets ≤ 20) ∧ Hid (Numb lets (k - lets) (xs.drop k) (ys.drop k)) ∧ Below w.heap.size w wr) (fun _ kv _ => ys.length - (intOf kv).toNat)
  case atStart => exact ⟨0, 0, 0, Nat.zero_le _, rfl, rfl, Nat.le_refl _, Nat.zero_le _, rfl, HTR.out, HT.out, ⟨by omega, by omega⟩, HNU.out, Below.refl _ _⟩
  case round =>
    obtain ⟨k, lets, fr, hk, rfl, rfl, hlk, hfr, HM, HTR2, HIT2, HLR, HNU2, hbw⟩ := hrel
    by_cases hlt : k < ys.length
    · have ht2 := HTR2.out
      have hi2 := HIT2.out
      have hn2 := HNU2.out
      rw [drop_head (show k < xs.length by rw [← hlen.out]; exact hlt) noItm] at ht2 hi2 hn2
      rw [drop_head (show k < xs.length by rw [← hlen.out]; exact hlt) noItm] at HM
      rw [drop_head hlt (zTok, zTok, 0, 0)] at hi2 hn2
      obtain ⟨g, rfl, hgc, hcells⟩ := HC.out k hlt
      have hgl := lt_of_get hgc.choose_spec
      generalize xs.getD k noItm = x at *
      generalize ys.getD k (zTok, zTok, 0, 0) = y at *
      obtain ⟨⟨hCd, hO⟩, hi2⟩ := hi2
      obtain ⟨hTr, hpt, ht2⟩ := ht2
      obtain ⟨t0, u0, b, wh⟩ := y
      simp only [] at hCd hO
      unfold Numb at hn2
      simp only [] at hn2
      have hct : ∀ j, j < 10 → wr.cell? ⟨g, k * 10 + j, none⟩ = (icell (t0, u0, b, wh))[j]? := fun j hj => by
        rw [hbw.cell (p := ⟨g, k * 10 + j, none⟩) hgl]; exact hcells j hj
      have c0 := hct 0 (by omega)
      have c1 := hct 1 (by omega)
      have c2 := hct 2 (by omega)
      have c3 := hct 3 (by omega)
      have c4 := hct 4 (by omega)
      have c5 := hct 5 (by omega)
      have c6 := hct 6 (by omega)
      have c7 := hct 7 (by omega)
      have c8 := hct 8 (by omega)
      have c9 := hct 9 (by omega)
      simp [icell] at c0 c1 c2 c3 c4 c5 c6 c7 c8 c9
      have hTF := hTr.fit
      have hcn := hTF.cnt
      have hle := hTF.le
      have hxl := hTF.lt
      have W1 := parts_any (N := N) hL (x.top + 1) hTF (hCd.grow (hbw.alloc hbw.size (.cells #[.int .i64 (kindOf t0), .int .i64 t0.pl, .int .i64 (nmOf t0), S (ownOf t0), .int .i64 (kindOf u0), .int .i64 u0.pl, .int .i64 (nmOf u0), S (ownOf u0), .int .i64 wh, .pointer (some ⟨b, 0, none⟩)] 163 (0, 0))))
      rw [hcn] at W1
      have WB := fun W => beyond_any t0 u0 wh b W
      unfold itW at WB
      -- which number, and what it says
      obtain ⟨lt, hlt1, hbey, hnx⟩ : ∃ lt, (lt = lets + (if x.name == [] then 0 else 1)) ∧ ((if kindOf t0 = 11 then decide (10 ≤ wh) else decide (20 < wh)) = decide (10 < lt ∨ 20 < k + 1 - lt)) ∧ Numb lt (k + 1 - lt) (xs.drop (k + 1)) (ys.drop (k + 1)) := by
        have hLR := HLR.out
        have hkl := itOf_let hO
        rcases hn2 with ⟨hn, hw, hnx⟩ | ⟨hn, hw, hnx⟩
        · have hk11 : kindOf t0 = 11 := by rcases hkl with h | h; exact h.2; exact absurd h.1 hn
          refine ⟨lets + 1, by rw [if_neg (by simpa using hn)], ?_, by rw [show k + 1 - (lets + 1) = k - lets by omega]; exact hnx⟩
          rw [if_pos hk11, hw]
          exact decide_eq_decide.2 (by omega)
        · have hk11 : kindOf t0 ≠ 11 := by rcases hkl with h | h; exact absurd hn h.1; exact h.2
          refine ⟨lets, by simp [hn], ?_, by rw [show k + 1 - lets = k - lets + 1 by omega]; exact hnx⟩
          rw [if_neg hk11, hw]
          exact decide_eq_decide.2 (by omega)
      have hltk : lt ≤ k + 1 := by rw [hlt1]; split <;> omega
      rw [hbey] at WB
      have HST : Hid _ := pmany_step (L := L) (x := x) (r := xs.drop (k + 1)) (lets := lets) (i := k) (lt := lt) hlt1
      have HNX : Hid _ := hnx
      have HTF : Hid _ := hTF
      have HCd : Hid _ := hCd
      have HTR3 : Hid _ := ht2
      have HIT3 : Hid _ := hi2
      have hp1 : t0.pl = x.pl := by unfold ItOf at hO; rcases hO with hO | hO <;> exact hO.2.2.1
      have hp0' : Hid _ := hp1
      clear hp1 hTr hTF hCd ht2 hi2 hct hcells hn2 hlt1 hbey hnx hO HNU2 HLR
      generalize kindOf t0 = kd at *
      generalize t0.pl = p0 at *
      generalize nmOf t0 = m2 at *
      generalize ownOf t0 = s3 at *
      generalize kindOf u0 = m4 at *
      generalize u0.pl = m5 at *
      generalize nmOf u0 = m6 at *
      generalize ownOf u0 = s7 at *
      go_wp2_with fail
      refine W1.mono ?_
      rintro e w1 ⟨rfl, hb1⟩
      clear W1
      have hi1 : w1.heap[wr.heap.size]? = some (.cells #[.int .i64 kd, .int .i64 p0, .int .i64 m2, S s3, .int .i64 m4, .int .i64 m5, .int .i64 m6, S s7, .int .i64 wh, .pointer (some ⟨b, 0, none⟩)] 163 (0, 0)) := (hb1.block _ (by simp)).trans (heap_alloc_new wr _)
      have hbw1 : Below w.heap.size w w1 := (hbw.alloc hbw.size _).trans (hb1.mono (by have := hbw.size; simp; omega))
      obtain ⟨⟨z0, z1, z2, z3, z4, z5, z6, z7, z8, z9⟩, zf⟩ := it_cells hi1
      have HI1 : Hid _ := hi1
      have HB1 : Hid _ := hbw1
      clear hi1 hb1 c0 c1 c2 c3 c4 c5 c6 c7 c8 c9 hbw1
      generalize hdd : dep (x.top + 1) L x.top = dd at *
      generalize wr.heap.size = bi at *
      by_cases hA : 10 < lt ∨ 20 < k + 1 - lt
      · rw [decide_eq_true hA] at WB
        go_wp2_with fail
        refine (WB _).mono ?_
        rintro e w2 ⟨rfl, hb2⟩
        have hz := (it_cells (w := w2) (b := bi) (x0 := .int .i64 kd) (x1 := .int .i64 p0) (x2 := .int .i64 m2) (x3 := S s3) (x4 := .int .i64 m4) (x5 := .int .i64 m5) (x6 := .int .i64 m6) (x7 := S s7) (x8 := .int .i64 wh) (x9 := .pointer (some ⟨b, 0, none⟩)) (by rw [hb2.block _ (lt_of_get HI1.out)]; exact HI1.out))
        clear WB z0 z1 z2 z3 z4 z5 z6 z7 z8 z9 zf
        obtain ⟨⟨z0, z1, z2, z3, z4, z5, z6, z7, z8, z9⟩, zf⟩ := hz
        have HB2 : Hid _ := HB1.out.trans (hb2.mono HB1.out.size)
        clear hb2 HI1 HB1
        go_wp2_with fail
        refine bodyPost_ret (v := .tuple #[.int .i64 p0, .bool false]) (by simp [results, Tryz.results57, go_sem]) rfl ⟨?_, HB2.out⟩
        rw [HM.out, HST.out, if_pos (by omega), hp0'.out]; rfl
      · rw [decide_eq_false hA] at WB
        go_wp2_with fail
        refine (WB _).mono ?_
        rintro e w2 ⟨rfl, hb2⟩
        have hi2 : w2.heap[bi]? = some (.cells #[.int .i64 kd, .int .i64 p0, .int .i64 m2, S s3, .int .i64 m4, .int .i64 m5, .int .i64 m6, S s7, .int .i64 wh, .pointer (some ⟨b, 0, none⟩)] 163 (0, 0)) := by rw [hb2.block _ (lt_of_get HI1.out)]; exact HI1.out
        clear WB z0 z1 z2 z3 z4 z5 z6 z7 z8 z9 zf
        obtain ⟨⟨z0, z1, z2, z3, z4, z5, z6, z7, z8, z9⟩, zf⟩ := it_cells hi2
        have hbw2 := HB1.out.trans (hb2.mono HB1.out.size)
        have W2 := pdepth_any (N := N) (x.top + 1) (by omega) HTF.out (HCd.out.grow hbw2)
        rw [hdd] at W2
        have HB2 : Hid _ := hbw2
        have HI2 : Hid _ := hi2
        clear hb2 HI1 HB1 hbw2 hi2
        by_cases hC : 200 < x.parts
        · clear W2
          go_wp2_with fail
          refine bodyPost_ret (v := .tuple #[.int .i64 p0, .bool false]) (by simp [results, Tryz.results57, go_sem]) rfl ⟨?_, HB2.out⟩
          rw [HM.out, HST.out, if_pos (by omega), hp0'.out]; rfl
        · go_wp2_with fail
          refine W2.mono ?_
          rintro e w3 ⟨rfl, hb3⟩
          clear W2
          have hz := (it_cells (w := w3) (b := bi) (x0 := .int .i64 kd) (x1 := .int .i64 p0) (x2 := .int .i64 m2) (x3 := S s3) (x4 := .int .i64 m4) (x5 := .int .i64 m5) (x6 := .int .i64 m6) (x7 := S s7) (x8 := .int .i64 wh) (x9 := .pointer (some ⟨b, 0, none⟩)) (by rw [hb3.block _ (lt_of_get HI2.out)]; exact HI2.out))
          clear z0 z1 z2 z3 z4 z5 z6 z7 z8 z9 zf
          obtain ⟨⟨z0, z1, z2, z3, z4, z5, z6, z7, z8, z9⟩, zf⟩ := hz
          have HB3 : Hid _ := HB2.out.trans (hb3.mono HB2.out.size)
          clear hb3 HI2 HB2
          by_cases hD : 20 < dd
          · go_wp2_with fail
            refine bodyPost_ret (v := .tuple #[.int .i64 p0, .bool false]) (by simp [results, Tryz.results57, go_sem]) rfl ⟨?_, HB3.out⟩
            rw [HM.out, HST.out, if_pos (by omega), hp0'.out]; rfl
          · go_wp2_with fail
            go_roundw
            case rel =>
              refine ⟨k + 1, lt, x.parts, by omega, by simp, by simp; omega, by omega, by omega, ?_, HTR3.out, HIT3.out, ⟨by omega, by omega⟩, HNX.out, HB3.out⟩
              show _ = _
              rw [HM.out, HST.out, if_neg (by omega)]
            case measure => simp [intOf]; omega
    · have hke : k = ys.length := by omega
      subst hke
      have hm : manyAt L xs 0 0 = none := by
        have := HM.out
        rw [List.drop_of_length_le (by rw [hlen.out]; exact Nat.le_refl _)] at this
        exact this
      have HM2 : Hid _ := hm
      clear hm
      go_wp2_with fail
      refine bodyPost_ret (v := .tuple #[.int .i64 0, .bool true]) (by simp [results, Tryz.results57, go_sem]) rfl ⟨?_, hbw⟩
      rw [HM2.out]; rfl
end Go.Proofs.YtfkdailfcmnjlaaGreatDoor

namespace Go.Proofs.YtfkdailfcmnjlaaGreatDoor
open Go Go.RowKit
set_option maxRecDepth 100000
attribute [local go_sem ↓] Go.wp_at_zero Go.wp_at_succ
variable {bs : Nat}

/-- A list of strings lies there. -/
def StrAt (w : World) (a : Option Addr) (l : List (List UInt8)) : Prop := ∀ j, j < l.length → ∃ g, a = some ⟨g, 0, none⟩ ∧ (∃ cs, w.heap[g]? = some (.cells cs 9 (0, 0))) ∧ w.cell? ⟨g, j, none⟩ = some (S (l.getD j []))
set_option maxHeartbeats 1000000 in
theorem strIndex_any (l : List (List UInt8)) (s : List UInt8) (a : Option Addr) (cap : Nat) (w : World) (hl : l.length ≤ 2000) (hc : StrAt w a l) :
    Calls Tryz.prog 153 #[.slice a l.length cap, S s] w fun e w' => e = .returned (.int .i64 (idx l s)) ∧ w' = w := by
  have HC : Hid _ := hc
  clear hc
  go_enter Tryz.func153, Tryz.ntmps153
  go_wp2
  go_loop [8] (fun i => ∃ k : Nat, k ≤ l.length ∧ i = .int .i64 k ∧ Hid (idx l s = (if idx (l.drop k) s < 0 then -1 else idx (l.drop k) s + k))) (fun i => l.length - (intOf i).toNat)
  case atStart =>
    refine ⟨0, Nat.zero_le _, rfl, ?_⟩
    have := idx_ge l s
    show _ = _
    simp; omega
  case round =>
    obtain ⟨k, hk, rfl, H⟩ := hrel
    by_cases hlt : k < l.length
    · obtain ⟨g, rfl, _, hcell⟩ := HC.out k hlt
      have HD : Hid _ := idx_drop l s k hlt
      have HE : Hid (l[k] = l.getD k []) := by show _ = _; rw [List.getD_eq_getElem?_getD, List.getElem?_eq_getElem hlt]; rfl
      clear HC
      generalize l.getD k [] = x at *
      have hge := idx_ge (l.drop (k + 1)) s
      by_cases hx : s = x
      · subst hx
        go_wp2
        go_ret
        refine ⟨ret_int ?_, rfl⟩
        rw [H.out, HD.out, HE.out]; simp
      · have hx2 : (s == x) = false := by simpa using hx
        have HX : Hid _ := hx
        clear hx
        go_wp2
        refine ⟨⟨k + 1, by omega, by go_num, ?_⟩, by simp [intOf]; omega⟩
        show _ = _
        have hxs : ¬ (x == s) = true := fun e => HX.out (beq_iff_eq.1 e).symm
        rw [H.out, HD.out, HE.out, if_neg hxs]
        by_cases h0 : idx (l.drop (k + 1)) s < 0
        · rw [if_pos h0, if_pos h0]; rfl
        · rw [if_neg h0, if_neg h0, if_neg (by omega)]; omega
    · go_wp2
      go_ret
      refine ⟨ret_int ?_, rfl⟩
      rw [H.out, List.drop_of_length_le (by omega)]
      simp [idx]
set_option maxHeartbeats 1000000 in
theorem strContains_any (l : List (List UInt8)) (s : List UInt8) (a : Option Addr) (cap : Nat) (w : World) (hl : l.length ≤ 2000) (hc : StrAt w a l) :
    Calls Tryz.prog 109 #[.slice a l.length cap, S s] w fun e w' => e = .returned (.bool (decide (0 ≤ idx l s))) ∧ w' = w := by
  have HI := strIndex_any l s a cap w hl hc
  clear hc
  have hge := idx_ge l s
  have hle := idx_le l s
  have hle2 : idx l s ≤ 2000 := by
    rcases hle with h | h
    · omega
    · rw [h]; simp [idx]
  clear hle
  generalize idx l s = r at *
  go_enter Tryz.func109, Tryz.ntmps109
  go_wp2_with fail
  refine HI.mono ?_
  rintro e w' ⟨rfl, rfl⟩
  clear HI
  go_wp2_with fail
  go_ret
  exact ⟨rfl, rfl⟩
end Go.Proofs.YtfkdailfcmnjlaaGreatDoor

namespace Go.Proofs.YtfkdailfcmnjlaaGreatDoor
open Go Go.RowKit
set_option maxRecDepth 100000
attribute [local go_sem ↓] Go.wp_at_zero Go.wp_at_succ
variable {bs : Nat}

/-- What naming leaves as it was: all but the notes of conditions, of which something is said. -/
structure RF (SS : Nat → Nat → List UInt8 → Int → Prop) (w w' : World) : Prop where
  os : w'.os = w.os
  tape : w'.tape = w.tape
  output : w'.output = w.output
  size : w.heap.size ≤ w'.heap.size
  block : ∀ k, k < w.heap.size → w'.heap[k]? = w.heap[k]? ∨ ∃ t u n n', w.heap[k]? = some (cdObj t u n) ∧ w'.heap[k]? = some (cdObj t u n') ∧ SS k (kindOf t) (ownOf t) n'
theorem cd_inj {t t' : Tok} {u u' : Value} {n n' : Int} (h : cdObj t u n = cdObj t' u' n') : kindOf t = kindOf t' ∧ ownOf t = ownOf t' ∧ ∀ m, cdObj t u m = cdObj t' u' m := by
  have h' := h
  unfold cdObj at h'
  simp only [Obj.cells.injEq] at h'
  obtain ⟨ha, _⟩ := h'
  have hl := congrArg Array.toList ha
  simp only [List.cons.injEq, Value.int.injEq, true_and] at hl
  obtain ⟨h1, h2, h3, h4, h5, h6, _⟩ := hl
  have e4 : ownOf t = ownOf t' := by simpa [S] using h4
  have e1 : kindOf t = kindOf t' := by exact Int.ofNat.inj h1
  refine ⟨e1, e4, fun m => ?_⟩
  unfold cdObj; rw [h1, h2, h3, e4, h5]
theorem RF.refl (SS : Nat → Nat → List UInt8 → Int → Prop) (w : World) : RF SS w w := ⟨rfl, rfl, rfl, Nat.le_refl _, fun _ _ => .inl rfl⟩
theorem RF.trans {SS : Nat → Nat → List UInt8 → Int → Prop} {w w1 w2 : World} (h : RF SS w w1) (k : RF SS w1 w2) : RF SS w w2 := by
  refine ⟨k.os.trans h.os, k.tape.trans h.tape, k.output.trans h.output, Nat.le_trans h.size k.size, fun j hj => ?_⟩
  rcases k.block j (Nat.lt_of_lt_of_le hj h.size) with e | ⟨t, u, n, n', e1, e2, e3⟩
  · rcases h.block j hj with f | ⟨t, u, n, n', f1, f2, f3⟩
    · exact .inl (e.trans f)
    · exact .inr ⟨t, u, n, n', f1, e.trans f2, f3⟩
  · rcases h.block j hj with f | ⟨t', u', m, m', f1, f2, f3⟩
    · exact .inr ⟨t, u, n, n', f.symm.trans e1, e2, e3⟩
    · rw [f2] at e1
      have hc := (cd_inj (Option.some.inj e1)).2.2 m
      exact .inr ⟨t, u, m, n', by rw [f1, hc], e2, e3⟩
theorem RF.mono {SS SS' : Nat → Nat → List UInt8 → Int → Prop} (hS : ∀ q k o n, SS q k o n → SS' q k o n) {w w' : World} (h : RF SS w w') : RF SS' w w' :=
  ⟨h.os, h.tape, h.output, h.size, fun k hk => (h.block k hk).imp id fun ⟨t, u, n, n', a, b, c⟩ => ⟨t, u, n, n', a, b, hS _ _ _ _ c⟩⟩
theorem RF.of_below {SS : Nat → Nat → List UInt8 → Int → Prop} {w w' : World} (h : Below w.heap.size w w') : RF SS w w' := ⟨h.os, h.tape, h.output, h.size, fun k hk => .inl (h.block k hk)⟩
theorem RF.drew {SS : Nat → Nat → List UInt8 → Int → Prop} {w w' : World} (h : RF SS w w') : RF SS w w'.drew := ⟨h.os, h.tape, h.output, h.size, h.block⟩
theorem RF.other {SS : Nat → Nat → List UInt8 → Int → Prop} {w w' : World} (h : RF SS w w') {k : Nat} {cs : Array Value} {ty : TypeId} {fr : Nat × Nat} (hk : w.heap[k]? = some (.cells cs ty fr)) (ht : ty ≠ 229) : w'.heap[k]? = w.heap[k]? := by
  rcases h.block k (lt_of_get hk) with e | ⟨t, u, n, n', e1, _⟩
  · exact e
  · rw [hk] at e1
    simp only [cdObj, Option.some.injEq, Obj.cells.injEq] at e1
    exact absurd e1.2.1 ht
theorem CondS.rf {L : List Pt} {N : Tok → Int → Prop} {SS : Nat → Nat → List UInt8 → Int → Prop} {w w' : World} {i b : Nat} (h : CondS bs L N w i b) (hf : RF SS w w') (hN : ∀ q t n, SS q (kindOf t) (ownOf t) n → N t n) : CondS bs L N w' i b := by
  refine h.ind (fun i b => CondS bs L N w' i b) ?_
  · intro i b u n bl hi hlo hn hb hu hs ih
    have hu' : UnderAt w' u (L.getD i noPt).subs.length bl := by
      rcases hu with hu | ⟨h0, g, h1, h2⟩
      · exact .inl hu
      · exact .inr ⟨h0, g, h1, by rw [hf.other h2 (by decide)]; exact h2⟩
    rcases hf.block b (lt_of_get hb) with e | ⟨t, u', m, m', e1, e2, e3⟩
    · exact .mk i b u n bl hi hlo hn (e.trans hb) hu' ih
    · rw [hb] at e1
      obtain ⟨k1, k2, k3⟩ := cd_inj (Option.some.inj e1)
      refine .mk i b u m' bl hi hlo (hN _ _ _ (by rw [k1, k2]; exact e3)) ?_ hu' ih
      rw [e2, k3]
theorem CondS.imp {L : List Pt} {N N' : Tok → Int → Prop} {w : World} {i b : Nat} (h : CondS bs L N w i b) (hN : ∀ t n, N t n → N' t n) : CondS bs L N' w i b :=
  h.ind (fun i b => CondS bs L N' w i b) fun i b u n bl hi hlo hn hb hu _ ih => .mk i b u n bl hi hlo (hN _ _ hn) hb hu ih
theorem StrAt.rf {SS : Nat → Nat → List UInt8 → Int → Prop} {w w' : World} {a : Option Addr} {l : List (List UInt8)} (h : StrAt w a l) (hf : RF SS w w') : StrAt w' a l := by
  intro j hj
  obtain ⟨g, h1, ⟨cs, h2⟩, h3⟩ := h j hj
  have e := hf.other h2 (by decide)
  exact ⟨g, h1, ⟨cs, by rw [e]; exact h2⟩, by rw [World.cell?_of_block (w := w) e]; exact h3⟩
def SB (bs : Nat) (q _k : Nat) (_o : List UInt8) (_n : Int) : Prop := bs ≤ q
/-- What is not below a bound stays. -/
theorem RF.below {w w' : World} (h : RF (SB bs) w w') {B : Nat} (hB : B ≤ bs) (hw : B ≤ w.heap.size) : Below B w w' := ⟨h.os, h.tape, h.output, h.size, fun k hk => by
  rcases h.block k (by omega) with e | ⟨_, _, _, _, _, _, e⟩
  · exact e
  · have : bs ≤ k := e
    omega⟩
/-- A note that is not yet, or is right. -/
def N0 (ix : List UInt8 → Int) (t : Tok) (n : Int) : Prop := n = 0 ∨ (kindOf t = 2 ∧ n = ix (ownOf t))
/-- A note that is right. -/
def N1 (ix : List UInt8 → Int) (t : Tok) (n : Int) : Prop := n = if kindOf t = 2 then ix (ownOf t) else 0
def SX (bs : Nat) (ix : List UInt8 → Int) (q k : Nat) (o : List UInt8) (n : Int) : Prop := bs ≤ q ∧ k = 2 ∧ n = ix o
theorem N0_ok {ix : List UInt8 → Int} (q : Nat) (t : Tok) (n : Int) (h : SX bs ix q (kindOf t) (ownOf t) n) : N0 ix t n := .inr h.2
theorem N1_ok {ix : List UInt8 → Int} (q : Nat) (t : Tok) (n : Int) (h : SX bs ix q (kindOf t) (ownOf t) n) : N1 ix t n := by unfold N1; rw [if_pos h.2.1]; exact h.2.2
/-- What naming a condition answers. -/
def ResAns (bs : Nat) (L : List Pt) (ix : List UInt8 → Int) (w : World) (i b : Nat) (o : Option Nat) (e : Ending) (w' : World) : Prop :=
  (∃ p, o = some p ∧ e = .returned (.tuple #[.int .i64 p, .bool false]) ∧ RF (SB bs) w w') ∨
  (o = none ∧ ∃ p : Nat, e = .returned (.tuple #[.int .i64 p, .bool true]) ∧ RF (SX bs ix) w w' ∧ CondS bs L (N1 ix) w' i b)

theorem cd_set {w : World} {b : Nat} {t : Tok} {u : Value} {n : Int} (h : w.heap[b]? = some (cdObj t u n)) (m : Int) : (w.setCell ⟨b, 5, none⟩ (.int .i64 m)).heap[b]? = some (cdObj t u m) := by
  unfold cdObj at h ⊢
  rw [heap_setCell_same w b 5 _ _ _ h]; rfl
theorem RF.note {SS : Nat → Nat → List UInt8 → Int → Prop} {w : World} {b : Nat} {t : Tok} {u : Value} {n : Int} (h : w.heap[b]? = some (cdObj t u n)) (m : Int) (hS : SS b (kindOf t) (ownOf t) m) : RF SS w (w.setCell ⟨b, 5, none⟩ (.int .i64 m)) := by
  refine ⟨rfl, rfl, rfl, by simp, fun k hk => ?_⟩
  by_cases e : k = b
  · subst e; exact .inr ⟨t, u, n, m, h, cd_set h m, hS⟩
  · exact .inl (Below.heap_setCell _ _ _ _ (by simpa using e))

set_option maxHeartbeats 4000000 in
theorem cresolve_own {L : List Pt} {G : List (List UInt8)} {ix : List UInt8 → Int} (hG : G.length ≤ 2000) (hix : ∀ s, 0 ≤ idx G s → ix s = idx G s) (f : Nat) {lo i b cap : Nat} {a : Option Addr} {w : World} (hT : TreeF (f + 1) L lo i) (hC : CondS bs L (N0 ix) w i b) (hS : StrAt w a G) (ho : (L.getD i noPt).tok.k = 111) :
    Calls Tryz.prog 110 #[.pointer (some ⟨b, 0, none⟩), .slice a G.length cap] w (ResAns bs L ix w i b (resF (fun t => decide (idx G (ownOf t) < 0)) (f + 1) L i)) := by
  have hsub := shape_leaf hT.2.1 ho
  obtain ⟨u, n, bl, hi, hlo, hn, hb, hu, hs⟩ := hC.inv
  obtain ⟨⟨c0, c1, c2, c3, c4, c5⟩, cf⟩ := cd_cells hb
  have hr : resF (fun t => decide (idx G (ownOf t) < 0)) (f + 1) L i = if idx G (ownOf (L.getD i noPt).tok) < 0 then some (L.getD i noPt).tok.pl else none := by
    rw [resF, if_pos ho]; simp
  have HR : Hid _ := hr
  have hk2 := kind_two.2 ho
  rw [hk2] at c0
  generalize resF (fun t => decide (idx G (ownOf t) < 0)) (f + 1) L i = o at *
  have HI := strIndex_any G (ownOf (L.getD i noPt).tok) a cap w hG hS
  have hfail := fun h : idx G (ownOf (L.getD i noPt).tok) < 0 => RF.note (SS := SB bs) hb (idx G (ownOf (L.getD i noPt).tok)) hlo
  have hgood := fun h : 0 ≤ idx G (ownOf (L.getD i noPt).tok) => RF.note (SS := SX bs ix) hb (idx G (ownOf (L.getD i noPt).tok)) ⟨hlo, hk2, (hix _ h).symm⟩
  have hcd := cd_set hb (idx G (ownOf (L.getD i noPt).tok))
  have hnew : 0 ≤ idx G (ownOf (L.getD i noPt).tok) → CondS bs L (N1 ix) (w.setCell ⟨b, 5, none⟩ (.int .i64 (idx G (ownOf (L.getD i noPt).tok)))) i b := fun h0 =>
    .mk i b u _ bl hi hlo (by unfold N1; rw [if_pos hk2]; exact (hix _ h0).symm) hcd (by rw [hsub] at hu ⊢; rcases hu with hu | hu; exact .inl hu; simp at hu) (by rw [hsub]; intro j hj; simp at hj)
  have HF : Hid _ := hfail
  have HGo : Hid _ := hgood
  have HN : Hid _ := hnew
  have hge := idx_ge G (ownOf (L.getD i noPt).tok)
  obtain ⟨⟨d0, d1, d2, d3, d4, d5⟩, df⟩ := cd_cells hcd
  have HCD : Hid _ := hcd
  clear hr hfail hgood hnew hs hu hn hb hS hix hsub hT hcd
  have hle2 : idx G (ownOf (L.getD i noPt).tok) ≤ 2000 := by
    rcases idx_le G (ownOf (L.getD i noPt).tok) with h | h
    · omega
    · rw [h]; simp [idx]
  generalize idx G (ownOf (L.getD i noPt).tok) = r at *
  generalize (L.getD i noPt).tok.pl = p at *
  generalize ownOf (L.getD i noPt).tok = nm at *
  go_enter Tryz.func110, Tryz.ntmps110
  go_wp2_with fail
  refine HI.mono ?_
  rintro e w' ⟨rfl, rfl⟩
  clear HI
  go_wp2_with fail
  clear c0 c1 c2 c3 c4 c5 cf d0 d2 d3 d4
  have HA : Hid (ResAns bs L ix w' i b o (.returned (.tuple #[.int .i64 p, .bool (decide (0 ≤ r))])) (w'.setCell ⟨b, 5, none⟩ (.int .i64 r)).drew) := by
    by_cases h0 : r < 0
    · have e : o = some p := by rw [HR.out, if_pos h0]
      refine .inl ⟨p, e, ?_, (HF.out h0).drew⟩
      rw [decide_eq_false (by omega)]
    · have e : o = none := by rw [HR.out, if_neg h0]
      refine .inr ⟨e, p, ?_, (HGo.out (by omega)).drew, (HN.out (by omega)).keep fun _ _ _ _ _ => rfl⟩
      rw [decide_eq_true (by omega)]
  clear HR HF HGo HN HCD
  generalize w'.setCell ⟨b, 5, none⟩ (.int .i64 r) = w2 at *
  go_region_held (fun w'' => w''.cell? ⟨b, 1, none⟩ = some (.int .i64 p) ∧ w''.cell? ⟨b, 5, none⟩ = some (.int .i64 r)) (go_keep) (fail)
  go_wp2_with fail
  refine bodyPost_ret (v := .tuple #[.int .i64 p, .bool (decide (0 ≤ r))]) (by simp [results, Tryz.results110, go_sem]) rfl ?_
  exact HA.out
end Go.Proofs.YtfkdailfcmnjlaaGreatDoor

namespace Go.Proofs.YtfkdailfcmnjlaaGreatDoor
open Go Go.RowKit
set_option maxRecDepth 100000
attribute [local go_sem ↓] Go.wp_at_zero Go.wp_at_succ
variable {bs : Nat}

theorem firstOf_step (F : Nat → Option Nat) (js : List Nat) (k : Nat) (hk : k < js.length) : firstOf F (js.drop k) = match F (js.getD k 0) with | some p => some p | none => firstOf F (js.drop (k + 1)) := by
  rw [drop_head hk 0, firstOf]
  cases F (js.getD k 0) <;> rfl
set_option maxHeartbeats 8000000 in
theorem cresolve_any {L : List Pt} {G : List (List UInt8)} {ix : List UInt8 → Int} (hG : G.length ≤ 2000) (hix : ∀ s, 0 ≤ idx G s → ix s = idx G s) (f : Nat) : ∀ {lo i b cap : Nat} {a : Option Addr} {w : World}, TreeF f L lo i → CondS bs L (N0 ix) w i b → StrAt w a G →
    Calls Tryz.prog 110 #[.pointer (some ⟨b, 0, none⟩), .slice a G.length cap] w (ResAns bs L ix w i b (resF (fun t => decide (idx G (ownOf t) < 0)) f L i)) := by
  induction f with
  | zero => intro lo i b cap a w h; exact h.elim
  | succ f ih =>
    intro lo i b cap a w hT hC hS
    by_cases ho : (L.getD i noPt).tok.k = 111
    · exact cresolve_own hG hix f hT hC hS ho
    · obtain ⟨u, n, bl, hi, hlo, hn, hb, hu, hs⟩ := hC.inv
      obtain ⟨⟨c0, c1, c2, c3, c4, c5⟩, cf⟩ := cd_cells hb
      have hr : resF (fun t => decide (idx G (ownOf t) < 0)) (f + 1) L i = firstOf (resF (fun t => decide (idx G (ownOf t) < 0)) f L) (L.getD i noPt).subs := by
        rw [resF, if_neg ho]
      rw [hr]
      have hk2 : kindOf (L.getD i noPt).tok ≠ 2 := fun e => ho (kind_two.1 e)
      have hk3 : ((kindOf (L.getD i noPt).tok : Int) == (2 : Int)) = false := by
        have : ¬ ((kindOf (L.getD i noPt).tok : Int) = 2) := by omega
        simpa using this
      obtain ⟨au, eu, ha⟩ := hu.slice
      have hn3 : (L.getD i noPt).subs.length ≤ 3 := by
        rcases hT.2.1 with ⟨_, h1⟩ | ⟨_, h1⟩ | ⟨_, h1⟩ | ⟨m, _, _, h1⟩
        · rw [h1]; simp
        all_goals omega
      have hsub := forest_mem _ hT.2.2
      have hend : ∀ wr, RF (SX bs ix) w wr → (∀ j, j < (L.getD i noPt).subs.length → CondS bs L (N1 ix) wr ((L.getD i noPt).subs.getD j 0) (bl j)) → CondS bs L (N1 ix) wr i b := by
        intro wr hf hall
        have hu' : UnderAt wr u (L.getD i noPt).subs.length bl := by
          rcases hu with hu | ⟨h0, g, h1, h2⟩
          · exact .inl hu
          · exact .inr ⟨h0, g, h1, by rw [hf.other h2 (by decide)]; exact h2⟩
        have hbw : wr.heap[b]? = w.heap[b]? := by
          rcases hf.block b (lt_of_get hb) with e | ⟨t, u', m, m', e1, e2, e3⟩
          · exact e
          · rw [hb] at e1
            have := (cd_inj (Option.some.inj e1)).1
            exact absurd (this.trans e3.2.1) hk2
        refine .mk i b u n bl hi hlo ?_ (hbw.trans hb) hu' hall
        unfold N1; rw [if_neg hk2]
        rcases hn with hn | hn
        · exact hn
        · exact absurd hn.1 hk2
      subst eu
      have HEND : Hid _ := hend
      have HS : Hid _ := hs
      have HT : Hid _ := hsub
      have HA : Hid _ := ha
      have HSt : Hid _ := hS
      clear hs hb hu hT hsub ha hn hr hend hk2 ho hS
      generalize kindOf (L.getD i noPt).tok = kd at *
      generalize hjs : (L.getD i noPt).subs = js at *
      clear hjs
      have HF : Hid (∀ j, resF (fun t => decide (idx G (ownOf t) < 0)) f L j = resF (fun t => decide (idx G (ownOf t) < 0)) f L j) := fun _ => rfl
      generalize hFF : resF (fun t => decide (idx G (ownOf t) < 0)) f L = FF at *
      have ho : Hid (firstOf FF js = firstOf FF (js.drop 0)) := rfl
      generalize hoo : firstOf FF js = o at *
      clear hoo
      go_enter Tryz.func110, Tryz.ntmps110
      go_wp2_with fail
      go_loopw [41] (fun kv wr => ∃ k, k ≤ js.length ∧ kv = .int .i64 k ∧ Hid (o = firstOf FF (js.drop k)) ∧ Hid (∀ j, j < k → CondS bs L (N1 ix) wr (js.getD j 0) (bl j)) ∧ RF (SX bs ix) w wr) (fun kv _ => js.length - (intOf kv).toNat)
      case atStart => exact ⟨0, Nat.zero_le _, rfl, ho, fun j hj => by omega, RF.refl _ _⟩
      case round =>
        obtain ⟨k, hk, rfl, HO, HD, hf⟩ := hrel
        by_cases hlt : k < js.length
        · obtain ⟨g, rfl, hg⟩ := HA.out k hlt
          have hg' : wr.heap[g]? = _ := (hf.other hg (by decide)).trans hg
          have hcell := under_cell hg' k hlt
          have hst : Hid _ := firstOf_step FF js k hlt
          obtain ⟨lo', hT'⟩ := HT.out (js.getD k 0) (by rw [List.getD_eq_getElem?_getD, List.getElem?_eq_getElem hlt]; exact List.getElem_mem hlt)
          have HI := ih (cap := cap) hT' ((HS.out k hlt).rf hf N0_ok) (StrAt.rf HSt.out hf)
          clear hg hg' hT' hFF
          go_wp2_with fail
          refine HI.mono ?_
          rintro e w1 (⟨p, hp, rfl, hf1⟩ | ⟨hp, p, rfl, hf1, hC1⟩)
          · have HP : Hid _ := hp
            clear HI hp
            go_wp2_with fail
            refine bodyPost_ret (v := .tuple #[.int .i64 p, .bool false]) (by simp [results, Tryz.results110, go_sem]) rfl ?_
            refine .inl ⟨p, ?_, rfl, (hf.mono fun _ _ _ _ h => h.1).trans hf1⟩
            rw [HO.out, hst.out, HP.out]
          · have HP : Hid _ := hp
            have HC1 : Hid _ := hC1
            clear HI hp hC1
            go_wp2_with fail
            go_roundw
            case rel =>
              refine ⟨k + 1, by omega, by simp, ?_, ?_, hf.trans hf1⟩
              · show _ = _
                rw [HO.out, hst.out, HP.out]
              · intro j hj
                by_cases e : j = k
                · subst e; exact HC1.out
                · exact (HD.out j (by omega)).rf hf1 N1_ok
            case measure => simp [intOf]; omega
        · have hke : k = js.length := by omega
          subst hke
          have hno : Hid (o = none) := by
            have := HO.out
            rw [List.drop_of_length_le (Nat.le_refl _)] at this
            exact this
          have HA : Hid (ResAns bs L ix w i b o (.returned (.tuple #[.int .i64 0, .bool true])) wr) := .inr ⟨hno.out, 0, rfl, hf, HEND.out wr hf HD.out⟩
          clear HD HEND
          go_wp2_with fail
          refine bodyPost_ret (v := .tuple #[.int .i64 0, .bool true]) (by simp [results, Tryz.results110, go_sem]) rfl ?_
          exact HA.out
end Go.Proofs.YtfkdailfcmnjlaaGreatDoor

namespace Go.Proofs.YtfkdailfcmnjlaaGreatDoor
open Go Go.RowKit
set_option maxRecDepth 100000
attribute [local go_sem ↓] Go.wp_at_zero Go.wp_at_succ
variable {bs : Nat}

theorem info_str : (Tryz.prog.info? 9).map (fun i => (i.zero, i.size, i.bytes)) = some (some (.string ⟨#[]⟩), 1, 16) := by kernel_rfl

theorem RF.grown {SS : Nat → Nat → List UInt8 → Int → Prop} {w wr w' : World} {row : Option Nat} (h : RF SS w wr) (hg : wr.grownBy w' row) (hr : ∀ k, row = some k → w.heap.size ≤ k) : RF SS w w' :=
  ⟨hg.os.trans h.os, hg.tape.trans h.tape, hg.output.trans h.output, Nat.le_trans h.size hg.size, fun k hk => by
    have e := hg.block k (Nat.lt_of_lt_of_le hk h.size) (fun e => by have := hr k e.symm; omega)
    rcases h.block k hk with f | ⟨t, u, n, n', f1, f2, f3⟩
    · exact .inl (e.trans f)
    · exact .inr ⟨t, u, n, n', f1, e.trans f2, f3⟩⟩
theorem RF.alloc {SS : Nat → Nat → List UInt8 → Int → Prop} {w wr : World} (h : RF SS w wr) (o : Obj) : RF SS w (wr.alloc o) :=
  h.trans (RF.of_below ((Below.refl _ _).alloc (Nat.le_refl _) o))
/-- A row of strings. -/
theorem str_row {w : World} {base : Nat} {v : Value} {l : List (List UInt8)} (h : w.ownsRow base 9 1 v l.length (l.map S)) : ∃ a cap, v = .slice a l.length cap ∧ StrAt w a l := by
  obtain ⟨hl, h⟩ := h
  rcases h with ⟨rfl, h0⟩ | ⟨g, cap, cur, rfl, hb, hg, h1, h2, h3, h4⟩
  · exact ⟨none, 0, by rw [h0], fun k hk => by omega⟩
  · refine ⟨_, cap, rfl, fun k hk => ⟨g, rfl, ⟨cur, hg⟩, ?_⟩⟩
    rw [cell_of_row w g k _ _ _ hg]
    have e1 : cur[k]? = (cur.toList.take (l.length * 1))[k]? := by
      rw [List.getElem?_take_of_lt (by omega)]; simp
    rw [e1, h4]
    simp [hk, List.getD_eq_getElem?_getD]
theorem str_block {w : World} {base : Nat} {v : Value} {n : Nat} {xs : List Value} (h : w.ownsRow base 9 1 v n xs) {k : Nat} (hk : v.ownBlock = some k) : base ≤ k ∧ ∃ cs, w.heap[k]? = some (.cells cs 9 (0, 0)) := by
  rcases h.2 with ⟨rfl, _⟩ | ⟨g, cap, cur, rfl, hb, hg, _⟩
  · simp [Value.ownBlock] at hk
  · simp [Value.ownBlock] at hk; subst hk; exact ⟨hb, cur, hg⟩
theorem CondS.grownStr {L : List Pt} {N : Tok → Int → Prop} {w w' : World} {i b : Nat} (h : CondS bs L N w i b) {base : Nat} {v : Value} {n : Nat} {xs : List Value} (hr : w.ownsRow base 9 1 v n xs) (hg : w.grownBy w' v.ownBlock) : CondS bs L N w' i b :=
  h.keep fun k cs ty hk ht => hg.block k (lt_of_get hk) fun e => by
    obtain ⟨_, cs', hc⟩ := str_block hr e.symm
    rw [hk] at hc
    simp only [Option.some.injEq, Obj.cells.injEq] at hc
    rw [hc.2.1] at ht
    exact absurd ht (by decide)
theorem ownsRow_rf {SS : Nat → Nat → List UInt8 → Int → Prop} {w w' : World} {base : Nat} {e : TypeId} {size : Nat} {v : Value} {n : Nat} {xs : List Value} (h : w.ownsRow base e size v n xs) (he : e ≠ 229) (hf : RF SS w w') : w'.ownsRow base e size v n xs := by
  obtain ⟨h1, h2⟩ := h
  refine ⟨h1, ?_⟩
  rcases h2 with h2 | ⟨g, cap, cur, a, b, c, d⟩
  · exact .inl h2
  · exact .inr ⟨g, cap, cur, a, b, by rw [hf.other c he]; exact c, d⟩
theorem ItemsAt.rf {L : List Pt} {N : Tok → Int → Prop} {SS : Nat → Nat → List UInt8 → Int → Prop} {w w' : World} (hf : RF SS w w') (hN : ∀ q t n, SS q (kindOf t) (ownOf t) n → N t n) {xs : List Itm} {ys : List (Tok × Tok × Nat × Int)} (h : ItemsAt (CondS bs L N w) xs ys) : ItemsAt (CondS bs L N w') xs ys :=
  h.mono fun _ _ h => h.rf hf hN
theorem take_snoc {α : Type} {l : List α} {k : Nat} (h : k < l.length) (d : α) : l.take (k + 1) = l.take k ++ [l.getD k d] := by
  rw [List.take_succ_eq_append_getElem h, List.getD_eq_getElem?_getD, List.getElem?_eq_getElem h]; rfl

/-- What naming a policy answers. -/
def NamAns (bs : Nat) (L : List Pt) (ix : List UInt8 → Int) (xs : List Itm) (ys : List (Tok × Tok × Nat × Int)) (w : World) (e : Ending) (w' : World) : Prop :=
  (∃ p, namesAt xs L xs 0 0 = some p ∧ e = .returned (.tuple #[.int .i64 p, .bool false]) ∧ RF (SB bs) w w') ∨
  (namesAt xs L xs 0 0 = none ∧ e = .returned (.tuple #[.int .i64 0, .bool true]) ∧ RF (SX bs ix) w w' ∧ ItemsAt (CondS bs L (N1 ix) w') xs ys)

set_option maxHeartbeats 8000000 in
theorem resolve_any {L : List Pt} (hL : PartsOK L) {xs : List Itm} {ys : List (Tok × Tok × Nat × Int)} {base : Nat} {v : Value} {w : World} (hrow : w.ownsRow base 163 10 v ys.length (iCells ys)) (hy : ys.length ≤ 1001)
    (hit : ItemsAt (CondS bs L (N0 (idx (giv xs))) w) xs ys) (htr : TreesAt L xs 0) :
    Calls Tryz.prog 58 #[v] w (NamAns bs L (idx (giv xs)) xs ys w) := by
  obtain ⟨a, cap, rfl, hcell⟩ := row_cells hrow
  obtain ⟨i0, hi, hz0, hz1, hz2⟩ := info_parts info_str
  have hlen : Hid _ := hit.len
  have HC : Hid _ := hcell
  have HT : Hid _ := hit
  have HTR : Hid _ := htr
  have HL : Hid _ := hL
  clear hrow hcell hit htr hL
  go_enter Tryz.func58, Tryz.ntmps58
  go_wp2_with fail
  go_loopw [4, 11] (fun gv kv wr => ∃ k fr, k ≤ ys.length ∧ kv = .int .i64 k ∧ Hid (namesAt xs L xs 0 0 = namesAt xs L (xs.drop k) fr k) ∧ Hid (TreesAt L (xs.drop k) fr) ∧ Hid (ItemsAt (CondS bs L (N0 (idx (giv xs))) w) (xs.drop k) (ys.drop k)) ∧ Hid (ItemsAt (CondS bs L (N1 (idx (giv xs))) wr) (xs.take k) (ys.take k)) ∧ wr.ownsRow w.heap.size 9 1 gv (giv (xs.take k)).length ((giv (xs.take k)).map S) ∧ RF (SX bs (idx (giv xs))) w wr) (fun _ kv _ => ys.length - (intOf kv).toNat)
  case atStart => exact ⟨0, 0, Nat.zero_le _, rfl, rfl, HTR.out, HT.out, trivial, World.ownsRow_nil _ _ _ _, RF.refl _ _⟩
  case round =>
    obtain ⟨k, fr, hk, rfl, HM, HTR2, HIT2, HDN, hown, hf⟩ := hrel
    by_cases hlt : k < ys.length
    · have hltx : k < xs.length := by rw [← hlen.out]; exact hlt
      have hgl := giv_len (xs.take k)
      have hgl2 : (giv (xs.take k)).length ≤ k := Nat.le_trans hgl (by simp; omega)
      have ht2 := HTR2.out
      have hi2 := HIT2.out
      rw [drop_head hltx noItm] at ht2 hi2
      rw [drop_head hltx noItm] at HM
      rw [drop_head hlt (zTok, zTok, 0, 0)] at hi2
      obtain ⟨g, rfl, ⟨gcs, hgc⟩, hcells⟩ := HC.out k hlt
      have HTX : Hid _ := take_snoc hltx noItm
      have HTY : Hid _ := take_snoc hlt (zTok, zTok, 0, 0)
      generalize xs.getD k noItm = x at *
      generalize ys.getD k (zTok, zTok, 0, 0) = y at *
      obtain ⟨⟨hCd, hO⟩, hi2⟩ := hi2
      obtain ⟨hTr, hpt, ht2⟩ := ht2
      obtain ⟨t0, u0, b, wh⟩ := y
      simp only [] at hCd hO
      have hgw : wr.heap[g]? = w.heap[g]? := hf.other hgc (by decide)
      have hct : ∀ j, j < 10 → wr.cell? ⟨g, k * 10 + j, none⟩ = (icell (t0, u0, b, wh))[j]? := fun j hj => by
        rw [World.cell?_of_block (w := w) (a := ⟨g, k * 10 + j, none⟩) hgw]; exact hcells j hj
      have c0 := hct 0 (by omega)
      have c1 := hct 1 (by omega)
      have c2 := hct 2 (by omega)
      have c3 := hct 3 (by omega)
      have c4 := hct 4 (by omega)
      have c5 := hct 5 (by omega)
      have c6 := hct 6 (by omega)
      have c7 := hct 7 (by omega)
      have c8 := hct 8 (by omega)
      have c9 := hct 9 (by omega)
      simp [icell] at c0 c1 c2 c3 c4 c5 c6 c7 c8 c9
      have hTF := hTr.fit
      have HST : Hid _ := names_item (xs := xs) HL.out (r := xs.drop (k + 1)) (i := k) hTr hpt
      obtain ⟨ag, capg, rfl, hSt⟩ := str_row hown
      have hf0 := hf.alloc (.cells #[.int .i64 (kindOf t0), .int .i64 t0.pl, .int .i64 (nmOf t0), S (ownOf t0), .int .i64 (kindOf u0), .int .i64 u0.pl, .int .i64 (nmOf u0), S (ownOf u0), .int .i64 wh, .pointer (some ⟨b, 0, none⟩)] 163 (0, 0))
      have hb0 : RF (SX bs (idx (giv xs))) wr (wr.alloc (.cells #[.int .i64 (kindOf t0), .int .i64 t0.pl, .int .i64 (nmOf t0), S (ownOf t0), .int .i64 (kindOf u0), .int .i64 u0.pl, .int .i64 (nmOf u0), S (ownOf u0), .int .i64 wh, .pointer (some ⟨b, 0, none⟩)] 163 (0, 0))) := (RF.refl _ _).alloc _
      have hG2 : (giv (xs.take k)).length ≤ 2000 := by omega
      have W2 := cresolve_any (L := L) (ix := idx (giv xs)) (cap := capg) hG2 (fun s h => giv_keep k h) (x.top + 1) hTF (hCd.rf hf0 N0_ok) (StrAt.rf hSt hb0)
      rw [resF_congr (bad' := badOf xs k) (fun q hq ho => by
        have e1 : ownOf (L.getD q noPt).tok = (L.getD q noPt).tok.text := by unfold ownOf; rw [if_pos ho]
        have e2 := giv_ix _ (HL.out.own q hq ho) xs k
        unfold badOf
        rw [e1, Bool.eq_iff_iff]; simpa using e2) (x.top + 1) hTF] at W2
      have W1 := strContains_any (giv (xs.take k)) (ownOf u0) ag capg _ hG2 (StrAt.rf hSt hb0)
      have hown0 := ownsRow_rf hown (by decide) hb0
      have hit0 : Hid (ItemsAt (CondS bs L (N1 (idx (giv xs))) (wr.alloc (.cells #[.int .i64 (kindOf t0), .int .i64 t0.pl, .int .i64 (nmOf t0), S (ownOf t0), .int .i64 (kindOf u0), .int .i64 u0.pl, .int .i64 (nmOf u0), S (ownOf u0), .int .i64 wh, .pointer (some ⟨b, 0, none⟩)] 163 (0, 0)))) (xs.take k) (ys.take k)) := HDN.out.rf hb0 N1_ok
      have hz0' : (wr.alloc (.cells #[.int .i64 (kindOf t0), .int .i64 t0.pl, .int .i64 (nmOf t0), S (ownOf t0), .int .i64 (kindOf u0), .int .i64 u0.pl, .int .i64 (nmOf u0), S (ownOf u0), .int .i64 wh, .pointer (some ⟨b, 0, none⟩)] 163 (0, 0))).heap[wr.heap.size]? = _ := heap_alloc_new wr _
      have HTR3 : Hid _ := ht2
      have HIT3 : Hid _ := hi2
      have HO : Hid (ItOf x t0 u0) := hO
      have hFw : Hid _ := hf0
      have hOwn : Hid _ := hown0
      unfold ItOf at hO
      clear hTr hTF hCd ht2 hi2 hct hcells hSt hf hown HDN hf0 hb0 hgw hgc HTR2 HIT2 hown0 HTR HT
      generalize hkd0 : kindOf t0 = kd at *
      generalize hu1 : u0.pl = m5 at *
      generalize hu2 : ownOf u0 = s7 at *
      generalize t0.pl = p0 at *
      generalize nmOf t0 = m2 at *
      generalize ownOf t0 = s3 at *
      generalize kindOf u0 = m4 at *
      generalize nmOf u0 = m6 at *
      rcases hO with hO | hO
      · have hkd : kd = 11 := hO.2.1
        subst hkd
        have hne := hO.1
        have e5 : m5 = x.named := hO.2.2.2.2.1
        have e7 : s7 = x.name := hO.2.2.2.2.2.1
        have HNE : Hid _ := hne
        have HE5 : Hid _ := e5
        have HE7 : Hid _ := e7
        clear hO hne e5 e7 hkd0 hu1 hu2
        by_cases hdup : 0 ≤ idx (giv (xs.take k)) s7
        · rw [decide_eq_true hdup] at W1
          have HA : Hid (NamAns bs L (idx (giv xs)) xs ys w (.returned (.tuple #[.int .i64 m5, .bool false])) (wr.alloc (.cells #[.int .i64 11, .int .i64 p0, .int .i64 m2, S s3, .int .i64 m4, .int .i64 m5, .int .i64 m6, S s7, .int .i64 wh, .pointer (some ⟨b, 0, none⟩)] 163 (0, 0)))) := by
            refine .inl ⟨m5, ?_, rfl, hFw.out.mono fun _ _ _ _ h => h.1⟩
            rw [HM.out, HST.out, if_pos ⟨HNE.out, by rw [← HE7.out]; exact hdup⟩, HE5.out]
          obtain ⟨⟨z0, z1, z2, z3, z4, z5, z6, z7, z8, z9⟩, zf⟩ := it_cells hz0'
          clear W2 hz0' hdup
          go_wp2_with fail
          refine W1.mono ?_
          rintro e w' ⟨rfl, rfl⟩
          clear W1
          go_wp2_with fail
          refine bodyPost_ret (v := .tuple #[.int .i64 m5, .bool false]) (by simp [results, Tryz.results58, go_sem]) rfl ?_
          exact HA.out
        · rw [decide_eq_false hdup] at W1
          have hst2 : Hid (namesAt xs L xs 0 0 = (resF (badOf xs k) (x.top + 1) L x.top).or (namesAt xs L (xs.drop (k + 1)) x.parts (k + 1))) := by
            show _ = _
            rw [HM.out, HST.out, if_neg (fun e => hdup (by rw [HE7.out]; exact e.2))]
          obtain ⟨⟨z0, z1, z2, z3, z4, z5, z6, z7, z8, z9⟩, zf⟩ := it_cells hz0'
          have HZ : Hid _ := hz0'
          clear hz0' hdup
          generalize resF (badOf xs k) (x.top + 1) L x.top = ro at *
          go_wp2_with fail
          refine W1.mono ?_
          rintro e w' ⟨rfl, rfl⟩
          clear W1
          go_wp2_with fail
          refine W2.mono ?_
          rintro e w1 (⟨q, hq, rfl, hf1⟩ | ⟨hq, q, rfl, hf1, hC1⟩)
          · have HQ : Hid _ := hq
            clear W2 hq z0 z1 z2 z3 z4 z5 z6 z7 z8 z9 zf
            go_wp2_with fail
            refine bodyPost_ret (v := .tuple #[.int .i64 q, .bool false]) (by simp [results, Tryz.results58, go_sem]) rfl ?_
            refine .inl ⟨q, ?_, rfl, (hFw.out.mono fun _ _ _ _ h => h.1).trans hf1⟩
            rw [hst2.out, HQ.out]; rfl
          · have HQ : Hid _ := hq
            have HC1 : Hid _ := hC1
            have hz1' : w1.heap[wr.heap.size]? = _ := (hf1.other HZ.out (by decide)).trans HZ.out
            have hown1 := ownsRow_rf hOwn.out (by decide) hf1
            have hF1 : Hid _ := hFw.out.trans hf1
            have hD1 : Hid _ := hit0.out.rf hf1 N1_ok
            have hs1 := hf1.size
            have hs0 := hFw.out.size
            clear W2 hq hC1 z0 z1 z2 z3 z4 z5 z6 z7 z8 z9 zf HZ hOwn hFw hit0 hf1
            obtain ⟨⟨z0, z1, z2, z3, z4, z5, z6, z7, z8, z9⟩, zf⟩ := it_cells hz1'
            clear hz1'
            simp only [World.size_alloc] at hs0 hs1
            generalize wr.heap.size = bi at *
            generalize hGl : giv (xs.take k) = G at *
            go_wp2_with (
              at_builtin
              go_must (refine wpList_append_lies _ (by rfl) _ _ 131 (by rfl) w.heap.size 9 i0 (.string ⟨#[]⟩) 1 16 Tryz.underlying131 hi hz0 hz1 hz2 (by rfl) (by decide) _ _ _ (by rfl) (hown1.alloc _) ⟨w1.heap.size, 0, none⟩ 1 1 [S s7] (by rfl) (by rfl) (World.news_of_block (heap_alloc_new w1 _)) (fun x hx => by simp at hx; rcases hx with rfl; rfl) (by decide) (by unfold maxLen; omega) (by omega) (by simp; omega) _ rfl ?_)
              intro g3 cap3 w3 hown3 hgrow3 hat hlt3)
            have hrowb : ∀ q, (Value.slice ag G.length capg).ownBlock = some q → w.heap.size ≤ q := fun q hq => (str_block hown1 hq).1
            refine ⟨⟨k + 1, x.parts, by omega, by simp, ?_, HTR3.out, HIT3.out, ?_, ?_, (hF1.out.alloc _).grown hgrow3 hrowb⟩, by simp [intOf]; omega⟩
            · show _ = _
              rw [hst2.out, HQ.out]; rfl
            · show ItemsAt _ _ _
              rw [HTX.out, HTY.out]
              exact ItemsAt.snoc ((HC1.out.grow ((Below.refl _ _).alloc (Nat.le_refl _) _)).grownStr (hown1.alloc _) hgrow3) HO.out (hD1.out.mono fun i b h => (h.grow ((Below.refl _ _).alloc (Nat.le_refl _) _)).grownStr (hown1.alloc _) hgrow3)
            · have e : giv (xs.take (k + 1)) = G ++ [s7] := by rw [HTX.out, giv_snoc, if_neg HNE.out, hGl, HE7.out]
              rw [e]; simpa using hown3
      · have hkd : ((kd : Int) == (11 : Int)) = false := by
          have h1 := hO.2.1
          have : ¬ ((kd : Int) = 11) := by split at h1 <;> omega
          simpa using this
        have HNE : Hid _ := hO.1
        clear hO hkd0 hu1 hu2 W1
        have hst2 : Hid (namesAt xs L xs 0 0 = (resF (badOf xs k) (x.top + 1) L x.top).or (namesAt xs L (xs.drop (k + 1)) x.parts (k + 1))) := by
          show _ = _
          rw [HM.out, HST.out, if_neg (fun e => e.1 HNE.out)]
        obtain ⟨⟨z0, z1, z2, z3, z4, z5, z6, z7, z8, z9⟩, zf⟩ := it_cells hz0'
        have HZ : Hid _ := hz0'
        clear hz0'
        generalize resF (badOf xs k) (x.top + 1) L x.top = ro at *
        go_wp2_with fail
        refine W2.mono ?_
        rintro e w1 (⟨q, hq, rfl, hf1⟩ | ⟨hq, q, rfl, hf1, hC1⟩)
        · have HQ : Hid _ := hq
          clear W2 hq z0 z1 z2 z3 z4 z5 z6 z7 z8 z9 zf
          go_wp2_with fail
          refine bodyPost_ret (v := .tuple #[.int .i64 q, .bool false]) (by simp [results, Tryz.results58, go_sem]) rfl ?_
          refine .inl ⟨q, ?_, rfl, (hFw.out.mono fun _ _ _ _ h => h.1).trans hf1⟩
          rw [hst2.out, HQ.out]; rfl
        · have HQ : Hid _ := hq
          have HC1 : Hid _ := hC1
          have hz1' : w1.heap[wr.heap.size]? = _ := (hf1.other HZ.out (by decide)).trans HZ.out
          have hown1 := ownsRow_rf hOwn.out (by decide) hf1
          have hF1 : Hid _ := hFw.out.trans hf1
          have hD1 : Hid _ := hit0.out.rf hf1 N1_ok
          clear W2 hq hC1 z0 z1 z2 z3 z4 z5 z6 z7 z8 z9 zf HZ hOwn hFw hit0 hf1
          obtain ⟨⟨z0, z1, z2, z3, z4, z5, z6, z7, z8, z9⟩, zf⟩ := it_cells hz1'
          clear hz1'
          generalize wr.heap.size = bi at *
          go_wp2_with fail
          refine ⟨⟨k + 1, x.parts, by omega, by simp, ?_, HTR3.out, HIT3.out, ?_, ?_, hF1.out⟩, by simp [intOf]; omega⟩
          · show _ = _
            rw [hst2.out, HQ.out]; rfl
          · show ItemsAt _ _ _
            rw [HTX.out, HTY.out]
            exact ItemsAt.snoc HC1.out HO.out hD1.out
          · have e : giv (xs.take (k + 1)) = giv (xs.take k) := by rw [HTX.out, giv_snoc, if_pos HNE.out]
            rw [e]; exact hown1
    · have hke : k = ys.length := by omega
      subst hke
      have hm : namesAt xs L xs 0 0 = none := by
        have := HM.out
        rw [List.drop_of_length_le (by rw [hlen.out]; exact Nat.le_refl _)] at this
        exact this
      have hd := HDN.out
      rw [List.take_length, List.take_of_length_le (by rw [hlen.out]; exact Nat.le_refl _)] at hd
      have HA : Hid (NamAns bs L (idx (giv xs)) xs ys w (.returned (.tuple #[.int .i64 0, .bool true])) wr) := .inr ⟨hm, rfl, hf, hd⟩
      clear hm hd HDN
      go_wp2_with fail
      refine bodyPost_ret (v := .tuple #[.int .i64 0, .bool true]) (by simp [results, Tryz.results58, go_sem]) rfl ?_
      exact HA.out
end Go.Proofs.YtfkdailfcmnjlaaGreatDoor

namespace Go.Proofs.YtfkdailfcmnjlaaGreatDoor
open Go Go.RowKit
set_option maxRecDepth 100000
attribute [local go_sem ↓] Go.wp_at_zero Go.wp_at_succ
variable {bs : Nat}

set_option maxHeartbeats 4000000 in
theorem typeOfWord_any (k : Nat) (w : World) (hk : k ≤ 100) : Calls Tryz.prog 154 #[.int .i64 k] w fun e w' => e = .returned (.int .i64 (wordK k)) ∧ w' = w := by
  have HK : Hid (wordK k = if k = 1 ∨ (27 ≤ k ∧ k ≤ 30) then 1 else if k = 20 ∨ k = 21 ∨ k = 34 ∨ k = 35 then 2 else if (22 ≤ k ∧ k ≤ 26) ∨ (31 ≤ k ∧ k ≤ 33) then 3 else 0) := rfl
  generalize wordK k = r at *
  go_enter Tryz.func154, Tryz.ntmps154
  go_wp2
  all_goals go_ret
  all_goals refine ⟨ret_int ?_, rfl⟩
  all_goals rw [HK.out]
  all_goals clear HK
  all_goals (repeat' split)
  all_goals first
    | rfl
    | (exfalso; omega)
    | (exfalso; simp at *; omega)

set_option maxHeartbeats 2000000 in
theorem ifAll_any (us : List Nat) (g o cap want give : Nat) (w : World) (hl : us.length ≤ 100) (hb : want ≤ 100)
    (hc : ∀ j, j < us.length → w.cell? ⟨g, o + j, none⟩ = some (.int .i64 (us.getD j 0)) ∧ us.getD j 0 ≤ 100) :
    Calls Tryz.prog 218 #[.slice (some ⟨g, o, none⟩) us.length cap, .int .i64 want, .int .i64 give] w fun e w' => e = .returned (.int .i64 (ifAllK us want give)) ∧ w' = w := by
  have HC : Hid _ := hc
  clear hc
  go_enter Tryz.func218, Tryz.ntmps218
  go_wp2
  go_loop [11] (fun i => ∃ k : Nat, k ≤ us.length ∧ i = .int .i64 k ∧ Hid (∀ q, q < k → us.getD q 0 = want)) (fun i => us.length - (intOf i).toNat)
  case atStart => exact ⟨0, Nat.zero_le _, rfl, fun q hq => by omega⟩
  case round =>
    obtain ⟨k, hk, rfl, HQ⟩ := hrel
    by_cases hlt : k < us.length
    · obtain ⟨hcell, hx100⟩ := HC.out k hlt
      have hmem : Hid (us.getD k 0 ∈ us) := by rw [List.getD_eq_getElem?_getD, List.getElem?_eq_getElem hlt]; exact List.getElem_mem hlt
      clear HC
      generalize hx : us.getD k 0 = x at hcell hmem hx100
      have HX : Hid _ := hx
      clear hx
      by_cases hv : x = want
      · subst hv
        go_wp2
        refine ⟨⟨k + 1, by omega, by go_num, fun q hq => ?_⟩, by simp [intOf]; omega⟩
        by_cases e : q = k
        · rw [e]; exact HX.out
        · exact HQ.out q (by omega)
      · have hv' : ¬ ((x : Int) = (want : Int)) := by omega
        have hv2 : ((x : Int) == (want : Int)) = false := by simpa using hv'
        have HV : Hid _ := hv
        clear hv
        go_wp2
        go_ret
        refine ⟨ret_int ?_, rfl⟩
        unfold ifAllK
        rw [if_neg (fun e => HV.out (by simpa using List.all_eq_true.1 e x hmem.out))]; rfl
    · go_wp2
      go_ret
      refine ⟨ret_int ?_, rfl⟩
      unfold ifAllK
      rw [if_pos]
      rw [List.all_eq_true]
      intro x hx
      obtain ⟨j, hj, rfl⟩ := List.mem_iff_getElem.1 hx
      have := HQ.out j (by omega)
      rw [List.getD_eq_getElem?_getD, List.getElem?_eq_getElem hj] at this
      simpa using this
set_option maxHeartbeats 2000000 in
theorem tyIndex_any (ks : List Nat) (v : Nat) (b cap : Nat) (w : World) (hl : ks.length ≤ 100)
    (hc : ∀ j, j < ks.length → w.cell? ⟨b, j, none⟩ = some (.int .i64 (ks.getD j 0))) :
    Calls Tryz.prog 217 #[.slice (some ⟨b, 0, none⟩) ks.length cap, .int .i64 v] w fun e w' => (∃ r : Int, e = .returned (.int .i64 r) ∧ -1 ≤ r ∧ r ≤ 1000 ∧ (decide (0 ≤ r) = ks.contains v)) ∧ w' = w := by
  have HC : Hid _ := hc
  clear hc
  go_enter Tryz.func217, Tryz.ntmps217
  go_wp2
  go_loop [8] (fun i => ∃ k : Nat, k ≤ ks.length ∧ i = .int .i64 k ∧ Hid (∀ q, q < k → ks.getD q 0 ≠ v)) (fun i => ks.length - (intOf i).toNat)
  case atStart => exact ⟨0, Nat.zero_le _, rfl, fun q hq => by omega⟩
  case round =>
    obtain ⟨k, hk, rfl, HQ⟩ := hrel
    by_cases hlt : k < ks.length
    · have hcell := HC.out k hlt
      have hmem : Hid (ks.getD k 0 ∈ ks) := by rw [List.getD_eq_getElem?_getD, List.getElem?_eq_getElem hlt]; exact List.getElem_mem hlt
      generalize hx : ks.getD k 0 = x at hcell hmem
      have HX : Hid _ := hx
      clear hx
      by_cases hv : v = x
      · subst hv
        go_wp2
        go_ret
        refine ⟨⟨k, rfl, by omega, by omega, ?_⟩, rfl⟩
        simp [hmem.out]
      · have hv' : ¬ ((v : Int) = (x : Int)) := by omega
        have hv2 : ((v : Int) == (x : Int)) = false := by simpa using hv'
        have HV : Hid _ := hv
        clear hv
        go_wp2
        refine ⟨⟨k + 1, by omega, by go_num, fun q hq => ?_⟩, by simp [intOf]; omega⟩
        by_cases e : q = k
        · rw [e, HX.out]; exact fun e => HV.out e.symm
        · exact HQ.out q (by omega)
    · go_wp2
      go_ret
      refine ⟨⟨-1, rfl, by omega, by omega, ?_⟩, rfl⟩
      have hno : v ∉ ks := fun e => by
        obtain ⟨j, hj, hj2⟩ := List.mem_iff_getElem.1 e
        exact HQ.out j (by omega) (by rw [List.getD_eq_getElem?_getD, List.getElem?_eq_getElem hj]; exact hj2)
      simp [hno]
set_option maxHeartbeats 1000000 in
theorem tyContains_any (ks : List Nat) (v : Nat) (b cap : Nat) (w : World) (hl : ks.length ≤ 100)
    (hc : ∀ j, j < ks.length → w.cell? ⟨b, j, none⟩ = some (.int .i64 (ks.getD j 0))) :
    Calls Tryz.prog 155 #[.slice (some ⟨b, 0, none⟩) ks.length cap, .int .i64 v] w fun e w' => e = .returned (.bool (ks.contains v)) ∧ w' = w := by
  have HI := tyIndex_any ks v b cap w hl hc
  clear hc
  go_enter Tryz.func155, Tryz.ntmps155
  go_wp2_with fail
  refine HI.mono ?_
  rintro e w' ⟨⟨r, rfl, h1, h2, h3⟩, rfl⟩
  have H3 : Hid _ := h3
  clear HI h3
  go_wp2_with fail
  go_ret
  exact ⟨ret_bool H3.out, rfl⟩
end Go.Proofs.YtfkdailfcmnjlaaGreatDoor

namespace Go.Proofs.YtfkdailfcmnjlaaGreatDoor
open Go Go.RowKit
set_option maxRecDepth 100000
attribute [local go_sem ↓] Go.wp_at_zero Go.wp_at_succ
variable {bs : Nat}

set_option maxHeartbeats 2000000 in
theorem typeOver_any (k : Nat) (us : List Nat) (g : Nat) (w : World) (hl : us.length ≤ 3) (hl0 : 0 < us.length)
    (hk : k = 6 ∨ k = 7 ∨ k = 9 ∨ k = 10 ∨ k = 17 ∨ k = 18 ∨ k = 19 ∨ k = 8 ∨ k = 14) (h8 : k = 8 → True) (h14 : k = 14 → us.length = 3)
    (hc : ∀ j, j < us.length → w.cell? ⟨g, j, none⟩ = some (.int .i64 (us.getD j 0)) ∧ us.getD j 0 ≤ 100) :
    Calls Tryz.prog 156 #[.int .i64 k, .slice (some ⟨g, 0, none⟩) us.length us.length] w fun e w' => e = .returned (.int .i64 (overK k us)) ∧ Below w.heap.size w w' := by
  rcases hk with hk | hk | hk | hk | hk | hk | hk | hk | hk
  · subst hk
    have HI := ifAll_any us g 0 us.length 1 1 w (by omega) (by omega) (by simpa using hc)
    have HO : Hid (overK 6 us = ifAllK us 1 1) := rfl
    clear hc h8 h14
    generalize overK 6 us = r at *
    go_enter Tryz.func156, Tryz.ntmps156
    go_wp2_with fail
    refine HI.mono ?_
    rintro e w' ⟨rfl, rfl⟩
    clear HI
    go_wp2_with fail
    go_ret
    exact ⟨ret_int (by rw [HO.out]), Below.refl _ _⟩
  · subst hk
    have HI := ifAll_any us g 0 us.length 1 1 w (by omega) (by omega) (by simpa using hc)
    have HO : Hid (overK 7 us = ifAllK us 1 1) := rfl
    clear hc h8 h14
    generalize overK 7 us = r at *
    go_enter Tryz.func156, Tryz.ntmps156
    go_wp2_with fail
    refine HI.mono ?_
    rintro e w' ⟨rfl, rfl⟩
    clear HI
    go_wp2_with fail
    go_ret
    exact ⟨ret_int (by rw [HO.out]), Below.refl _ _⟩
  · subst hk
    have HI := ifAll_any us g 0 us.length 1 2 w (by omega) (by omega) (by simpa using hc)
    have HO : Hid (overK 9 us = ifAllK us 1 2) := rfl
    clear hc h8 h14
    generalize overK 9 us = r at *
    go_enter Tryz.func156, Tryz.ntmps156
    go_wp2_with fail
    refine HI.mono ?_
    rintro e w' ⟨rfl, rfl⟩
    clear HI
    go_wp2_with fail
    go_ret
    exact ⟨ret_int (by rw [HO.out]), Below.refl _ _⟩
  · subst hk
    have HI := ifAll_any us g 0 us.length 1 2 w (by omega) (by omega) (by simpa using hc)
    have HO : Hid (overK 10 us = ifAllK us 1 2) := rfl
    clear hc h8 h14
    generalize overK 10 us = r at *
    go_enter Tryz.func156, Tryz.ntmps156
    go_wp2_with fail
    refine HI.mono ?_
    rintro e w' ⟨rfl, rfl⟩
    clear HI
    go_wp2_with fail
    go_ret
    exact ⟨ret_int (by rw [HO.out]), Below.refl _ _⟩
  · subst hk
    have HI := ifAll_any us g 0 us.length 2 2 w (by omega) (by omega) (by simpa using hc)
    have HO : Hid (overK 17 us = ifAllK us 2 2) := rfl
    clear hc h8 h14
    generalize overK 17 us = r at *
    go_enter Tryz.func156, Tryz.ntmps156
    go_wp2_with fail
    refine HI.mono ?_
    rintro e w' ⟨rfl, rfl⟩
    clear HI
    go_wp2_with fail
    go_ret
    exact ⟨ret_int (by rw [HO.out]), Below.refl _ _⟩
  · subst hk
    have HI := ifAll_any us g 0 us.length 2 2 w (by omega) (by omega) (by simpa using hc)
    have HO : Hid (overK 18 us = ifAllK us 2 2) := rfl
    clear hc h8 h14
    generalize overK 18 us = r at *
    go_enter Tryz.func156, Tryz.ntmps156
    go_wp2_with fail
    refine HI.mono ?_
    rintro e w' ⟨rfl, rfl⟩
    clear HI
    go_wp2_with fail
    go_ret
    exact ⟨ret_int (by rw [HO.out]), Below.refl _ _⟩
  · subst hk
    have HI := ifAll_any us g 0 us.length 2 2 w (by omega) (by omega) (by simpa using hc)
    have HO : Hid (overK 19 us = ifAllK us 2 2) := rfl
    clear hc h8 h14
    generalize overK 19 us = r at *
    go_enter Tryz.func156, Tryz.ntmps156
    go_wp2_with fail
    refine HI.mono ?_
    rintro e w' ⟨rfl, rfl⟩
    clear HI
    go_wp2_with fail
    go_ret
    exact ⟨ret_int (by rw [HO.out]), Below.refl _ _⟩
  · subst hk
    obtain ⟨hc0, hb0⟩ := hc 0 hl0
    have HI := ifAll_any us g 0 us.length (us.getD 0 0) 2 w (by omega) hb0 (by simpa using hc)
    have HO : Hid (overK 8 us = ifAllK us (us.getD 0 0) 2) := rfl
    clear hc h8 h14
    generalize overK 8 us = r at *
    generalize us.getD 0 0 = u0 at *
    go_enter Tryz.func156, Tryz.ntmps156
    go_wp2_with fail
    refine HI.mono ?_
    rintro e w' ⟨rfl, rfl⟩
    clear HI
    go_wp2_with fail
    go_ret
    exact ⟨ret_int (by rw [HO.out]), Below.refl _ _⟩
  · subst hk
    have h3 := h14 rfl
    obtain ⟨hc0, hb0⟩ := hc 0 hl0
    obtain ⟨hc1, hb1⟩ := hc 1 (by omega)
    have HI := ifAll_any (us.drop 1) g 1 (us.length - 1) (us.getD 1 0) (us.getD 1 0) w.drew (by simp; omega) hb1 (fun j hj => by
      have := hc (1 + j) (by simp at hj; omega)
      rw [show (us.drop 1).getD j 0 = us.getD (1 + j) 0 from by simp [List.getD_eq_getElem?_getD, Nat.add_comm]]
      exact this)
    rw [show (us.drop 1).length = us.length - 1 from by simp] at HI
    have HO : Hid (overK 14 us = if us.getD 0 0 = 2 then ifAllK (us.drop 1) (us.getD 1 0) (us.getD 1 0) else 0) := rfl
    clear hc h8 h14
    generalize overK 14 us = r at *
    generalize us.getD 0 0 = u0 at *
    generalize us.getD 1 0 = u1 at *
    generalize us.drop 1 = ur at *
    rw [h3] at HI
    rw [h3]
    by_cases h2 : u0 = 2
    · subst h2
      go_enter Tryz.func156, Tryz.ntmps156
      go_wp2_with fail
      go_region_held3 (fun w' => w'.cell? ⟨g, 1, none⟩ = some (.int .i64 u1)) (first | exact hc1 | go_keep) ((refine HI.mono ?_; rintro e w' ⟨rfl, rfl⟩))
      go_wp2_with fail
      go_ret
      exact ⟨ret_int (by rw [HO.out]; simp), (Below.refl _ _).drew⟩
    · have hv2 : ((u0 : Int) == (2 : Int)) = false := by
        have : ¬ ((u0 : Int) = 2) := by omega
        simpa using this
      have H2 : Hid _ := h2
      clear h2 HI
      go_enter Tryz.func156, Tryz.ntmps156
      go_wp2_with fail
      go_ret
      exact ⟨ret_int (by rw [HO.out, if_neg H2.out]; rfl), Below.refl _ _⟩
end Go.Proofs.YtfkdailfcmnjlaaGreatDoor

namespace Go.Proofs.YtfkdailfcmnjlaaGreatDoor
open Go Go.RowKit
set_option maxRecDepth 100000
attribute [local go_sem ↓] Go.wp_at_zero Go.wp_at_succ
variable {bs : Nat}

/-- A list of numbers lies there. -/
def TyAt (w : World) (a : Option Addr) (l : List Nat) : Prop := ∀ j, j < l.length → ∃ g, a = some ⟨g, 0, none⟩ ∧ w.cell? ⟨g, j, none⟩ = some (.int .i64 (l.getD j 0))
theorem TyAt.grow {w w' : World} {a : Option Addr} {l : List Nat} (h : TyAt w a l) (hb : Below w.heap.size w w') : TyAt w' a l := fun j hj => by
  obtain ⟨g, h1, h2⟩ := h j hj
  exact ⟨g, h1, by rw [hb.cell (p := ⟨g, j, none⟩) (World.block_lt_of_cell? w _ h2)]; exact h2⟩
theorem tcode_le (c : UInt8) : tcode c ≤ 3 := by unfold tcode; split; omega; split; omega; split <;> omega

theorem shape_kind {p : Pt} (h : Shape p) (hn : p.subs ≠ []) : (kindOf p.tok = 6 ∨ kindOf p.tok = 7 ∨ kindOf p.tok = 9 ∨ kindOf p.tok = 10 ∨ kindOf p.tok = 17 ∨ kindOf p.tok = 18 ∨ kindOf p.tok = 19 ∨ kindOf p.tok = 8 ∨ kindOf p.tok = 14) ∧ (kindOf p.tok = 14 → p.subs.length = 3) := by
  rcases h with ⟨_, h⟩ | ⟨h, hl⟩ | ⟨h, hl⟩ | ⟨n, _, h, hl⟩
  · exact absurd h hn
  · obtain ⟨e, hk⟩ := isW_text h
    rw [kind_word hk, e]; exact ⟨by decide, fun e => absurd e (by decide)⟩
  · obtain ⟨e, hk⟩ := isW_text h
    rw [kind_word hk, e]; exact ⟨by decide, fun _ => hl⟩
  · obtain ⟨e, hk⟩ := joins_text h
    rw [kind_word hk]
    have key : ∀ x ∈ ([[43], [45], [60], [60, 61], [61], [111, 114], [97, 110, 100]] : List (List UInt8)), (kn x = 6 ∨ kn x = 7 ∨ kn x = 9 ∨ kn x = 10 ∨ kn x = 17 ∨ kn x = 18 ∨ kn x = 19 ∨ kn x = 8 ∨ kn x = 14) ∧ kn x ≠ 14 := by decide
    exact ⟨(key _ e).1, fun h => absurd h (key _ e).2⟩

set_option maxHeartbeats 4000000 in
theorem typeOf_own {L : List Pt} {xs : List Itm} {its : List UInt8} {lts : List Nat} {f lo i b cap : Nat} {a : Option Addr} {w : World} (hT : TreeF (f + 1) L lo i) (hC : CondS bs L (N1 (idx (giv xs))) w i b) (hS : TyAt w a lts) (hll : lts.length ≤ 1001) (ho : (L.getD i noPt).tok.k = 111)
    (h0 : 0 ≤ idx (giv xs) (L.getD i noPt).tok.text) (h1 : (idx (giv xs) (L.getD i noPt).tok.text).toNat < lts.length) (h2 : lts.getD (idx (giv xs) (L.getD i noPt).tok.text).toNat 0 = tcode (tyOf xs its L (f + 1) i)) :
    Calls Tryz.prog 111 #[.pointer (some ⟨b, 0, none⟩), .slice a lts.length cap] w fun e w' => e = .returned (.int .i64 (tcode (tyOf xs its L (f + 1) i))) ∧ Below w.heap.size w w' := by
  obtain ⟨u, n, bl, hi, hlo, hn, hb, hu, hs⟩ := hC.inv
  obtain ⟨⟨c0, c1, c2, c3, c4, c5⟩, cf⟩ := cd_cells hb
  have hk2 := kind_two.2 ho
  rw [hk2] at c0
  have en : n = idx (giv xs) (L.getD i noPt).tok.text := by
    unfold N1 at hn; rw [if_pos hk2] at hn
    have e1 : ownOf (L.getD i noPt).tok = (L.getD i noPt).tok.text := by unfold ownOf; rw [if_pos ho]
    rw [e1] at hn; exact hn
  rw [← en] at h0 h1 h2
  obtain ⟨g, rfl, hcell⟩ := hS _ h1
  rw [h2] at hcell
  obtain ⟨m, rfl⟩ : ∃ m : Nat, n = m := ⟨n.toNat, by omega⟩
  have hm : (m : Int).toNat = m := by omega
  rw [hm] at h1 hcell
  clear hS hT hb hu hs hn en h2 h0 hk2 ho hm
  generalize tcode (tyOf xs its L (f + 1) i) = r at *
  go_enter Tryz.func111, Tryz.ntmps111
  go_wp2_with fail
  go_ret
  exact ⟨rfl, Below.refl _ _⟩
end Go.Proofs.YtfkdailfcmnjlaaGreatDoor

namespace Go.Proofs.YtfkdailfcmnjlaaGreatDoor
open Go Go.RowKit
set_option maxRecDepth 100000
attribute [local go_sem ↓] Go.wp_at_zero Go.wp_at_succ
variable {bs : Nat}

set_option maxHeartbeats 4000000 in
theorem typeOf_leaf {L : List Pt} {N : Tok → Int → Prop} {i b n cap : Nat} {a : Option Addr} {w : World} (hC : CondS bs L N w i b) (ho : (L.getD i noPt).tok.k ≠ 111) (hs : (L.getD i noPt).subs = []) :
    Calls Tryz.prog 111 #[.pointer (some ⟨b, 0, none⟩), .slice a n cap] w fun e w' => e = .returned (.int .i64 (wordK (kindOf (L.getD i noPt).tok))) ∧ Below w.heap.size w w' := by
  obtain ⟨u, n, bl, hi, hlo, hn, hb, hu, hs'⟩ := hC.inv
  obtain ⟨⟨c0, c1, c2, c3, c4, c5⟩, cf⟩ := cd_cells hb
  have hk3 : ((kindOf (L.getD i noPt).tok : Int) == (2 : Int)) = false := by
    have : ¬ ((kindOf (L.getD i noPt).tok : Int) = 2) := fun e => ho (kind_two.1 (by omega))
    simpa using this
  have hu0 : u = .slice none 0 0 := by
    rw [hs] at hu; rcases hu with hu | hu
    · exact hu.2
    · simp at hu
  subst hu0
  have HI := typeOfWord_any (kindOf (L.getD i noPt).tok) w (kind_le _)
  clear hb hu hs' hn hs ho
  generalize wordK (kindOf (L.getD i noPt).tok) = r at *
  generalize kindOf (L.getD i noPt).tok = kd at *
  go_enter Tryz.func111, Tryz.ntmps111
  go_wp2_with fail
  refine HI.mono ?_
  rintro e w' ⟨rfl, rfl⟩
  clear HI
  go_wp2_with fail
  go_ret
  exact ⟨rfl, Below.refl _ _⟩

theorem info_type : (Tryz.prog.info? 220).map (fun i => (i.zero, i.size, i.bytes)) = some (some (.int .i64 0), 1, 8) := by kernel_rfl
set_option maxHeartbeats 4000000 in
theorem typeOf_over {L : List Pt} {N : Tok → Int → Prop} {i b m cap : Nat} {a : Option Addr} {w : World} (F : Nat → Nat) (hF : ∀ j, F j ≤ 3) (hC : CondS bs L N w i b) (ho : (L.getD i noPt).tok.k ≠ 111) (hsh : Shape (L.getD i noPt)) (hn0 : (L.getD i noPt).subs ≠ [])
    (hI : ∀ j ∈ (L.getD i noPt).subs, ∀ (bj : Nat) (w1 : World), CondS bs L N w1 j bj → Below w.heap.size w w1 → Calls Tryz.prog 111 #[.pointer (some ⟨bj, 0, none⟩), .slice a m cap] w1 fun e w' => e = .returned (.int .i64 (F j)) ∧ Below w1.heap.size w1 w') :
    Calls Tryz.prog 111 #[.pointer (some ⟨b, 0, none⟩), .slice a m cap] w fun e w' => e = .returned (.int .i64 (if ((L.getD i noPt).subs.map F).contains 0 then 0 else overK (kindOf (L.getD i noPt).tok) ((L.getD i noPt).subs.map F) : Nat)) ∧ Below w.heap.size w w' := by
  obtain ⟨u, n, bl, hi, hlo, hn, hb, hu, hs⟩ := hC.inv
  obtain ⟨⟨c0, c1, c2, c3, c4, c5⟩, cf⟩ := cd_cells hb
  have hk3 : ((kindOf (L.getD i noPt).tok : Int) == (2 : Int)) = false := by
    have : ¬ ((kindOf (L.getD i noPt).tok : Int) = 2) := fun e => ho (kind_two.1 (by omega))
    simpa using this
  obtain ⟨hkk, hk14⟩ := shape_kind hsh hn0
  have hn3 : (L.getD i noPt).subs.length ≤ 3 := by
    rcases hsh with ⟨_, h1⟩ | ⟨_, h1⟩ | ⟨_, h1⟩ | ⟨m, _, _, h1⟩
    · rw [h1]; simp
    all_goals omega
  have hn1 : 0 < (L.getD i noPt).subs.length := List.length_pos_iff.2 hn0
  have hn2 : ¬ (L.getD i noPt).subs.length = 0 := by omega
  obtain ⟨au, rfl, ha⟩ := hu.slice
  obtain ⟨g, rfl, hg⟩ := ha 0 hn1
  have HI : Hid _ := hI
  have HS : Hid _ := hs
  have HG : Hid _ := hg
  have HKK : Hid _ := hkk
  have HK14 : Hid _ := hk14
  clear hb hu hs hn ho hI ha hg hsh hn0 hkk hk14
  generalize kindOf (L.getD i noPt).tok = kd at *
  generalize (L.getD i noPt).subs = js at *
  have hmk := run_make_row' (P := Tryz.prog) 219 220 (.int .i64 0) 8 Tryz.underlying219 info_type rfl .i64 .i64 js.length (by omega) (by omega)
  generalize hr : (if (js.map F).contains 0 = true then 0 else overK kd (js.map F)) = r at *
  have HR : Hid _ := hr
  clear hr
  have n4 := World.new_ne w _ c4
  have hmade : ∀ j, j < js.length → (w.alloc (.cells (madeCells #[.int .i64 0] js.length) 220)).cell? ⟨w.heap.size, j, none⟩ = some (.int .i64 0) := fun j hj => by
    rw [cell_of_row _ _ j _ _ _ (heap_alloc_new w _)]
    rw [← Array.getElem?_toList, toList_madeCells_one]; simp [hj]
  have hblk : ∃ cs, (w.alloc (.cells (madeCells #[.int .i64 0] js.length) 220)).heap[w.heap.size]? = some (.cells cs 220 (0, 0)) := ⟨_, heap_alloc_new w _⟩
  have hbw0 : Below w.heap.size w (w.alloc (.cells (madeCells #[.int .i64 0] js.length) 220)) := (Below.refl _ _).alloc (Nat.le_refl _) _
  have c4' : (w.alloc (.cells (madeCells #[.int .i64 0] js.length) 220)).cell? ⟨b, 4, none⟩ = _ := (hbw0.cell (p := ⟨b, 4, none⟩) (World.block_lt_of_cell? w _ c4)).trans c4
  have HM : Hid _ := hmade
  have HB : Hid _ := hblk
  have HB0 : Hid _ := hbw0
  clear hmade hblk hbw0
  go_enter Tryz.func111, Tryz.ntmps111
  go_wp2_with fail
  generalize hgu : w.heap.size = gu at *
  generalize w.alloc (.cells (madeCells #[.int .i64 0] js.length) 220) = wz at *
  have HGU : Hid _ := hgu
  clear hgu
  go_loopw [44] (fun kv wr => ∃ k, k ≤ js.length ∧ kv = .int .i64 k ∧ Hid (∃ cs, wr.heap[gu]? = some (.cells cs 220 (0, 0))) ∧ Hid (∀ j, j < js.length → wr.cell? ⟨gu, j, none⟩ = some (.int .i64 (if j < k then F (js.getD j 0) else 0 : Nat))) ∧ Below gu w wr) (fun kv _ => js.length - (intOf kv).toNat)
  case atStart => exact ⟨0, Nat.zero_le _, rfl, HB.out, fun j hj => by simpa using HM.out j hj, HB0.out⟩
  case round =>
    obtain ⟨k, hk, rfl, HBK, HCL, hbw⟩ := hrel
    by_cases hlt : k < js.length
    · have hg' : wr.heap[g]? = _ := (hbw.block g (by rw [← HGU.out]; exact lt_of_get HG.out)).trans HG.out
      have hcell := under_cell hg' k hlt
      have hmem : js.getD k 0 ∈ js := by rw [List.getD_eq_getElem?_getD, List.getElem?_eq_getElem hlt]; exact List.getElem_mem hlt
      have hbw' : Below w.heap.size w wr := by rw [HGU.out]; exact hbw
      have W1 := HI.out (js.getD k 0) hmem (bl k) wr ((HS.out k hlt).grow hbw') hbw
      clear hg' hmem hbw'
      have hF3 := hF (js.getD k 0)
      generalize hfx : F (js.getD k 0) = fx at W1 hF3
      have HFX : Hid _ := hfx
      clear hfx
      go_wp2_with fail
      refine W1.mono ?_
      rintro e w1 ⟨rfl, hb1⟩
      clear W1
      obtain ⟨cs, hcs⟩ := HBK.out
      have hlg := lt_of_get hcs
      have hcs1 : w1.heap[gu]? = some (.cells cs 220 (0, 0)) := (hb1.block _ hlg).trans hcs
      have hcl1 : ∀ j, j < js.length → w1.cell? ⟨gu, j, none⟩ = some (.int .i64 (if j < k then F (js.getD j 0) else 0 : Nat)) := fun j hj => by
        rw [hb1.cell (p := ⟨gu, j, none⟩) hlg]; exact HCL.out j hj
      have hck := hcl1 k hlt
      have hfz : ∀ j, w1.frozen? ⟨gu, j, none⟩ = false := fun j => by simp [World.frozen?, hcs1]
      have HCL1 : Hid _ := hcl1
      have HCS1 : Hid _ := hcs1
      have hbw1 : Below gu w w1 := hbw.trans (hb1.mono (by rw [← HGU.out]; exact hbw.size))
      clear hcl1 hcs1 hcs
      go_wp2_with fail
      go_roundw
      case rel =>
        refine ⟨k + 1, by omega, by simp, ⟨_, heap_setCell_same _ _ _ _ _ _ HCS1.out⟩, fun j hj => ?_, ?_⟩
        · by_cases e : j = k
          · subst e
            rw [World.cell?_setCell_same' w1 ⟨gu, j, none⟩ _ (by rw [HCL1.out j hj]; rfl), if_pos (by omega), HFX.out]
          · have h1 := HCL1.out j hj
            rw [World.cell?_setCell_other (w := w1) (a := ⟨gu, k, none⟩) (b := ⟨gu, j, none⟩) (h := by intro h; injection h with _ h2; omega), h1]
            simp only [show (j < k + 1) = (j < k) from propext (by omega)]
        · exact hbw1.setCell (Nat.le_refl _) _
      case measure => simp [intOf]; omega
    · have hke : k = js.length := by omega
      subst hke
      have hcl : ∀ j, j < (js.map F).length → wr.cell? ⟨gu, j, none⟩ = some (.int .i64 ((js.map F).getD j 0)) ∧ (js.map F).getD j 0 ≤ 100 := fun j hj => by
        have hj' : j < js.length := by simpa using hj
        have h1 := HCL.out j hj'
        rw [if_pos hj'] at h1
        have e : (js.map F).getD j 0 = F (js.getD j 0) := by simp [List.getD_eq_getElem?_getD, hj']
        rw [e]; exact ⟨h1, by have := hF (js.getD j 0); omega⟩
      have W1 := tyContains_any (js.map F) 0 gu js.length wr (by simp; omega) (fun j hj => (hcl j hj).1)
      have W2 := typeOver_any kd (js.map F) gu wr (by simpa using hn3) (by simpa using hn1) HKK.out (fun _ => trivial) (by simpa using HK14.out) hcl
      simp only [List.length_map] at W1 W2
      have HBW : Hid _ := hbw
      have c0' : wr.cell? ⟨b, 0, none⟩ = _ := (hbw.cell (p := ⟨b, 0, none⟩) (by rw [← HGU.out]; exact World.block_lt_of_cell? w _ c0)).trans c0
      clear hcl HCL HBK hbw
      generalize overK kd (js.map F) = ov at *
      cases hct : (js.map F).contains 0 with
      | true =>
        rw [hct] at W1
        have HE : Hid (r = 0) := by show _ = _; rw [← HR.out, hct, if_pos rfl]
        clear W2 HR hct
        go_wp2_with fail
        refine W1.mono ?_
        rintro e w' ⟨rfl, rfl⟩
        clear W1
        go_wp2_with fail
        go_ret
        exact ⟨ret_int (by rw [HE.out]; rfl), by rw [HGU.out]; exact HBW.out⟩
      | false =>
        rw [hct] at W1
        have HE : Hid (r = ov) := by show _ = _; rw [← HR.out, hct]; rfl
        clear HR hct
        go_wp2_with fail
        refine W1.mono ?_
        rintro e w' ⟨rfl, rfl⟩
        clear W1
        go_wp2_with fail
        refine W2.mono ?_
        rintro e w2 ⟨rfl, hb2⟩
        clear W2
        go_wp2_with fail
        go_ret
        exact ⟨ret_int (by rw [HE.out]), by rw [HGU.out]; exact HBW.out.trans (hb2.mono (by rw [← HGU.out]; exact HBW.out.size))⟩
end Go.Proofs.YtfkdailfcmnjlaaGreatDoor

namespace Go.Proofs.YtfkdailfcmnjlaaGreatDoor
open Go Go.RowKit
set_option maxRecDepth 100000
variable {bs : Nat}

theorem contains_tcode {js : List Nat} {F : Nat → UInt8} (hF : ∀ j ∈ js, F j = 0 ∨ isTy (F j)) : (js.map fun j => tcode (F j)).contains 0 = (js.map F).contains 0 := by
  rw [Bool.eq_iff_iff, List.contains_iff_mem, List.contains_iff_mem, List.mem_map, List.mem_map]
  constructor
  · rintro ⟨j, hj, e⟩; exact ⟨j, hj, (tcode_zero (hF j hj)).1 e⟩
  · rintro ⟨j, hj, e⟩; exact ⟨j, hj, (tcode_zero (hF j hj)).2 e⟩
theorem tcode_nil : tcode 0 = 0 := by decide

theorem ptypeOf_any {L : List Pt} {xs : List Itm} {its : List UInt8} (hW : ∀ k, k < L.length → TokW (L.getD k noPt).tok) (hits : ∀ c ∈ its, isTy c) (hle : its.length ≤ xs.length) (hlx : xs.length ≤ 1001) (f : Nat) : ∀ {lo i b cap : Nat} {a : Option Addr} {w : World}, TreeF f L lo i → Given xs its.length L lo (i + 1) → CondS bs L (N1 (idx (giv xs))) w i b → TyAt w a (letTys (xs.take its.length) its) →
    Calls Tryz.prog 111 #[.pointer (some ⟨b, 0, none⟩), .slice a (letTys (xs.take its.length) its).length cap] w fun e w' => e = .returned (.int .i64 (tcode (tyOf xs its L f i))) ∧ Below w.heap.size w w' := by
  have hll := letTys_len (xs.take its.length) its (by simp; omega)
  induction f with
  | zero => intro lo i b cap a w h; exact h.elim
  | succ f ih =>
    intro lo i b cap a w hT hG hC hS
    by_cases ho : (L.getD i noPt).tok.k = 111
    · obtain ⟨hne, h0⟩ := hG i hT.le (by omega) ho
      have hix : ¬ idx (giv (xs.take its.length)) (L.getD i noPt).tok.text < 0 := fun h => by have := (giv_ix _ hne xs its.length).1 h; omega
      have hke := giv_keep its.length (xs := xs) (s := (L.getD i noPt).tok.text) (by omega)
      have hlt : (idx (giv (xs.take its.length)) (L.getD i noPt).tok.text).toNat < (letTys (xs.take its.length) its).length := by
        rw [hll]
        rcases idx_le (giv (xs.take its.length)) (L.getD i noPt).tok.text with h | h
        · omega
        · rw [h] at hix; exact absurd (by simp [idx]) hix
      refine typeOf_own (its := its) hT hC hS ?_ ho (by rw [hke]; omega) (by rw [hke]; exact hlt) ?_
      · rw [hll]
        have := giv_len (xs.take its.length)
        simp at this; omega
      · rw [hke, letTys_at _ hne xs its hle h0, tyOf, shape_leaf hT.2.1 ho]
        have e : tyCase xs its (L.getD i noPt).tok ([].map (tyOf xs its L f)) = (its.getD (letIx xs (L.getD i noPt).tok.text its.length).toNat 0).toNat := by
          unfold tyCase; rw [if_neg (by omega), if_pos ho]
        rw [e, UInt8.ofNat_toNat]; rfl
    · by_cases hs : (L.getD i noPt).subs = []
      · have ha : alone (L.getD i noPt).tok = true := by
          rcases hT.2.1 with ⟨h1, _⟩ | ⟨_, h1⟩ | ⟨_, h1⟩ | ⟨n, _, _, h1⟩
          · exact h1
          all_goals (rw [hs] at h1; simp at h1)
        have h1 := (ty_leaf xs its (hW i hT.1) ha ho).1
        have e : tcode (tyOf xs its L (f + 1) i) = wordK (kindOf (L.getD i noPt).tok) := by
          rw [tyOf, hs, ← h1]; rfl
        rw [e]
        exact typeOf_leaf hC ho hs
      · have hsub := forest_bounds _ hT.2.2
        have hty : ∀ j ∈ (L.getD i noPt).subs, tyOf xs its L f j = 0 ∨ isTy (tyOf xs its L f j) := fun j hj => by
          obtain ⟨lo', h1, h2, h3⟩ := hsub j hj
          exact tyOf_ty hW hits f h3 (fun q a b => hG q (by omega) (by omega))
        have h1 := typeOf_over (a := a) (m := (letTys (xs.take its.length) its).length) (cap := cap) (fun j => tcode (tyOf xs its L f j)) (fun j => tcode_le _) hC ho hT.2.1 hs (fun j hj bj w1 hCj hb => by
          obtain ⟨lo', h1, h2, h3⟩ := hsub j hj
          exact ih h3 (fun q a b => hG q (by omega) (by omega)) hCj (hS.grow hb))
        have e : (if (((L.getD i noPt).subs.map fun j => tcode (tyOf xs its L f j)).contains 0) = true then 0 else overK (kindOf (L.getD i noPt).tok) ((L.getD i noPt).subs.map fun j => tcode (tyOf xs its L f j))) = tcode (tyOf xs its L (f + 1) i) := by
          rw [contains_tcode hty, tyOf]
          cases hc : ((L.getD i noPt).subs.map (tyOf xs its L f)).contains 0 with
          | true => rw [if_pos rfl, if_pos rfl]; exact tcode_nil.symm
          | false =>
            rw [if_neg (by simp), if_neg (by simp)]
            refine (ty_over hT.2.1 hs (F := tyOf xs its L f) fun j hj => ?_).1.symm
            rcases hty j hj with h0 | h0
            · exfalso
              have : ((L.getD i noPt).subs.map (tyOf xs its L f)).contains 0 = true := by rw [List.contains_iff_mem, ← h0]; exact List.mem_map_of_mem hj
              rw [hc] at this; simp at this
            · exact h0
        rw [e] at h1
        exact h1

/-- Where no name is wrong, each item's names are given. -/
theorem names_given {xs : List Itm} {L : List Pt} (hL : PartsOK L) {x : Itm} {r : List Itm} {fr i : Nat} (hT : Tree L fr x.top) (hp : x.top + 1 = x.parts) (h : namesAt xs L (x :: r) fr i = none) :
    Given xs i L fr (x.top + 1) ∧ namesAt xs L r x.parts (i + 1) = none := by
  have h1 := (TreeF.res (xs := xs) (n := i) hL.up hT.fit).1
  rw [names_item hL hT hp] at h
  by_cases hc : x.name ≠ [] ∧ 0 ≤ idx (giv (xs.take i)) x.name
  · rw [if_pos hc] at h; simp at h
  · rw [if_neg hc] at h
    cases hr : resF (badOf xs i) (x.top + 1) L x.top with
    | some p => rw [hr] at h; simp at h
    | none =>
      rw [hr] at h1 h
      refine ⟨fun q h2 h3 ho => ⟨hL.own q (by have := hT.fit.lt; omega) ho, (wrongAt_fine _ _ _ h1).2 q h2 (by have := hT.fit.le; omega) ho⟩, h⟩
theorem ptypes_step {xs : List Itm} {L : List Pt} {x : Itm} {r : List Itm} {its : List UInt8} {t : Nat} {c : UInt8} (hc : c = tyOf xs its L (x.top + 1) x.top) (ht : t = tcode c) (hty : c = 0 ∨ isTy c) :
    typesAt xs L (x :: r) its = if t = 0 ∨ (x.name = [] ∧ t ≠ 2) then some x.pl else typesAt xs L r (its ++ [c]) := by
  rw [typesAt, ← hc, ht]
  have h0 : c.toNat = 0 ↔ tcode c = 0 := by rcases hty with rfl | rfl | rfl | rfl <;> decide
  have h2 : c.toNat = 116 ↔ tcode c = 2 := by rcases hty with rfl | rfl | rfl | rfl <;> decide
  simp only [h0, ne_eq, h2]
end Go.Proofs.YtfkdailfcmnjlaaGreatDoor

namespace Go.Proofs.YtfkdailfcmnjlaaGreatDoor
open Go Go.RowKit
set_option maxRecDepth 100000
attribute [local go_sem ↓] Go.wp_at_zero Go.wp_at_succ
variable {bs : Nat}

/-- A row of numbers. -/
theorem ty_row {w : World} {base : Nat} {v : Value} {l : List Nat} (h : w.ownsRow base 220 1 v l.length (l.map fun (n : Nat) => Value.int .i64 n)) : ∃ a cap, v = .slice a l.length cap ∧ TyAt w a l := by
  obtain ⟨hl, h⟩ := h
  rcases h with ⟨rfl, h0⟩ | ⟨g, cap, cur, rfl, hb, hg, h1, h2, h3, h4⟩
  · exact ⟨none, 0, by rw [h0], fun k hk => by omega⟩
  · refine ⟨_, cap, rfl, fun k hk => ⟨g, rfl, ?_⟩⟩
    rw [cell_of_row w g k _ _ _ hg]
    have e1 : cur[k]? = (cur.toList.take (l.length * 1))[k]? := by
      rw [List.getElem?_take_of_lt (by omega)]; simp
    rw [e1, h4]
    simp [hk, List.getD_eq_getElem?_getD]

set_option maxHeartbeats 600000 in
theorem typed_any {L : List Pt} (hL : PartsOK L) (hW : ∀ k, k < L.length → TokW (L.getD k noPt).tok) {xs : List Itm} {ys : List (Tok × Tok × Nat × Int)} {base : Nat} {v : Value} {w : World} (hrow : w.ownsRow base 163 10 v ys.length (iCells ys)) (hy : ys.length ≤ 1001)
    (hit : ItemsAt (CondS bs L (N1 (idx (giv xs))) w) xs ys) (htr : TreesAt L xs 0) (hnm : namesAt xs L xs 0 0 = none) :
    Calls Tryz.prog 59 #[v] w fun e w' => e = .returned (plcV (typesAt xs L xs [])) ∧ Below w.heap.size w w' := by
  obtain ⟨a, cap, rfl, hcell⟩ := row_cells hrow
  obtain ⟨i0, hi, hz0, hz1, hz2⟩ := info_parts info_type
  have hlen : Hid _ := hit.len
  have hlx : Hid (xs.length ≤ 1001) := by show _ ≤ _; rw [← hit.len]; exact hy
  have HC : Hid _ := hcell
  have HT : Hid _ := hit
  have HTR : Hid _ := htr
  have HL : Hid _ := hL
  have HNM : Hid _ := hnm
  have HW : Hid _ := hW
  clear hrow hcell hit htr hL hnm hW
  go_enter Tryz.func59, Tryz.ntmps59
  go_wp2_with fail
  go_loopw [4, 10] (fun lv kv wr => ∃ k fr its, k ≤ ys.length ∧ kv = .int .i64 k ∧ Hid (typesAt xs L xs [] = typesAt xs L (xs.drop k) its) ∧ Hid (its.length = k ∧ ∀ c ∈ its, isTy c) ∧ Hid (namesAt xs L (xs.drop k) fr k = none) ∧ Hid (TreesAt L (xs.drop k) fr) ∧ Hid (ItemsAt (CondS bs L (N1 (idx (giv xs))) w) (xs.drop k) (ys.drop k)) ∧ wr.ownsRow w.heap.size 220 1 lv (letTys (xs.take k) its).length ((letTys (xs.take k) its).map fun (n : Nat) => Value.int .i64 n) ∧ Below w.heap.size w wr) (fun _ kv _ => ys.length - (intOf kv).toNat)
  case atStart => exact ⟨0, 0, [], Nat.zero_le _, rfl, rfl, ⟨rfl, by simp⟩, HNM.out, HTR.out, HT.out, World.ownsRow_nil _ _ _ _, Below.refl _ _⟩
  case round =>
    obtain ⟨k, fr, its, hk, rfl, HM, HIS, HNM2, HTR2, HIT2, hown, hbw⟩ := hrel
    by_cases hlt : k < ys.length
    · have hltx : k < xs.length := by rw [← hlen.out]; exact hlt
      obtain ⟨hisl, hisy⟩ := HIS.out
      have hll := letTys_len (xs.take k) its (by rw [hisl]; simp; omega)
      have hgl := giv_len (xs.take k)
      have hgl2 : (letTys (xs.take k) its).length ≤ k := by rw [hll]; exact Nat.le_trans hgl (by simp; omega)
      clear hll hgl
      have ht2 := HTR2.out
      have hi2 := HIT2.out
      have hn2 := HNM2.out
      rw [drop_head hltx noItm] at ht2 hi2 hn2
      rw [drop_head hltx noItm] at HM
      rw [drop_head hlt (zTok, zTok, 0, 0)] at hi2
      obtain ⟨g, rfl, ⟨gcs, hgc⟩, hcells⟩ := HC.out k hlt
      have HTX : Hid _ := take_snoc hltx noItm
      generalize xs.getD k noItm = x at *
      generalize ys.getD k (zTok, zTok, 0, 0) = y at *
      obtain ⟨⟨hCd, hO⟩, hi2⟩ := hi2
      obtain ⟨hTr, hpt, ht2⟩ := ht2
      obtain ⟨hgv, hn2⟩ := names_given HL.out hTr hpt hn2
      obtain ⟨t0, u0, b, wh⟩ := y
      simp only [] at hCd hO
      have hct : ∀ j, j < 10 → wr.cell? ⟨g, k * 10 + j, none⟩ = (icell (t0, u0, b, wh))[j]? := fun j hj => by
        rw [hbw.cell (p := ⟨g, k * 10 + j, none⟩) (lt_of_get hgc)]; exact hcells j hj
      have c0 := hct 0 (by omega)
      have c1 := hct 1 (by omega)
      have c2 := hct 2 (by omega)
      have c3 := hct 3 (by omega)
      have c4 := hct 4 (by omega)
      have c5 := hct 5 (by omega)
      have c6 := hct 6 (by omega)
      have c7 := hct 7 (by omega)
      have c8 := hct 8 (by omega)
      have c9 := hct 9 (by omega)
      simp [icell] at c0 c1 c2 c3 c4 c5 c6 c7 c8 c9
      have hTF := hTr.fit
      obtain ⟨al, capl, rfl, hSt⟩ := ty_row hown
      have hb0 : Below wr.heap.size wr (wr.alloc (.cells #[.int .i64 (kindOf t0), .int .i64 t0.pl, .int .i64 (nmOf t0), S (ownOf t0), .int .i64 (kindOf u0), .int .i64 u0.pl, .int .i64 (nmOf u0), S (ownOf u0), .int .i64 wh, .pointer (some ⟨b, 0, none⟩)] 163 (0, 0))) := (Below.refl _ _).alloc (Nat.le_refl _) _
      have hbw0 : Below w.heap.size w (wr.alloc (.cells #[.int .i64 (kindOf t0), .int .i64 t0.pl, .int .i64 (nmOf t0), S (ownOf t0), .int .i64 (kindOf u0), .int .i64 u0.pl, .int .i64 (nmOf u0), S (ownOf u0), .int .i64 wh, .pointer (some ⟨b, 0, none⟩)] 163 (0, 0))) := hbw.alloc hbw.size _
      have hgv' : Given xs its.length L fr (x.top + 1) := by rw [hisl]; exact hgv
      have hSt' : TyAt (wr.alloc (.cells #[.int .i64 (kindOf t0), .int .i64 t0.pl, .int .i64 (nmOf t0), S (ownOf t0), .int .i64 (kindOf u0), .int .i64 u0.pl, .int .i64 (nmOf u0), S (ownOf u0), .int .i64 wh, .pointer (some ⟨b, 0, none⟩)] 163 (0, 0))) al (letTys (xs.take its.length) its) := by rw [hisl]; exact hSt.grow hb0
      have W1 := ptypeOf_any (cap := capl) HW.out hisy (by rw [hisl]; omega) hlx.out (x.top + 1) hTF hgv' (hCd.grow hbw0) hSt'
      rw [hisl] at W1
      have hty := tyOf_ty (xs := xs) HW.out hisy (x.top + 1) hTF hgv'
      have HST : Hid _ := ptypes_step (r := xs.drop (k + 1)) rfl rfl hty
      have htc := tcode_le (tyOf xs its L (x.top + 1) x.top)
      have hty2 : Hid (tcode (tyOf xs its L (x.top + 1) x.top) ≠ 0 → isTy (tyOf xs its L (x.top + 1) x.top)) := fun h => by
        rcases hty with h0 | h0
        · exact absurd (by rw [h0]; decide) h
        · exact h0
      have hown0 := ownsRow_below hown hb0
      have hz0' : (wr.alloc (.cells #[.int .i64 (kindOf t0), .int .i64 t0.pl, .int .i64 (nmOf t0), S (ownOf t0), .int .i64 (kindOf u0), .int .i64 u0.pl, .int .i64 (nmOf u0), S (ownOf u0), .int .i64 wh, .pointer (some ⟨b, 0, none⟩)] 163 (0, 0))).heap[wr.heap.size]? = _ := heap_alloc_new wr _
      have HTR3 : Hid _ := ht2
      have HIT3 : Hid _ := hi2
      have HNM3 : Hid _ := hn2
      have hFw : Hid _ := hbw0
      have hOwn : Hid _ := hown0
      have HIL : Hid _ := hisl
      have HIY : Hid _ := hisy
      unfold ItOf at hO
      have hp1 : t0.pl = x.pl := by rcases hO with hO | hO <;> exact hO.2.2.1
      have hp0' : Hid _ := hp1
      clear hp1 hTr hTF hCd ht2 hi2 hct hcells hSt hbw hown hb0 hbw0 hgc HTR2 HIT2 HNM2 hown0 HTR HT HNM hgv hgv' hSt' hty hisl hisy hn2 HIS
      generalize hkd0 : kindOf t0 = kd at *
      generalize u0.pl = m5 at *
      generalize ownOf u0 = s7 at *
      generalize t0.pl = p0 at *
      generalize nmOf t0 = m2 at *
      generalize ownOf t0 = s3 at *
      generalize kindOf u0 = m4 at *
      generalize nmOf u0 = m6 at *
      generalize htyc : tyOf xs its L (x.top + 1) x.top = tc at *
      clear htyc
      generalize htt : tcode tc = tt at *
      have HTT : Hid _ := htt
      clear htt
      generalize hlts : letTys (xs.take k) its = lts at *
      have HLT : Hid _ := hlts
      clear hlts
      rcases hO with hO | hO
      · have hkd : kd = 11 := hO.2.1
        subst hkd
        have HNE : Hid _ := hO.1
        skip
        clear hO hkd0
        go_wp2_with fail
        refine W1.mono ?_
        rintro e w1 ⟨rfl, hb1⟩
        clear W1 c0 c1 c2 c3 c4 c5 c6 c7 c8 c9
        have hz1' : w1.heap[wr.heap.size]? = _ := (hb1.block _ (lt_of_get hz0')).trans hz0'
        have hBw : Hid _ := hFw.out.trans (hb1.mono hFw.out.size)
        have hown1 := ownsRow_below hOwn.out hb1
        have hs1 := hBw.out.size
        obtain ⟨⟨z0, z1, z2, z3, z4, z5, z6, z7, z8, z9⟩, zf⟩ := it_cells hz1'
        clear hz1' hz0' hb1 hFw hOwn
        generalize wr.heap.size = bi at *
        by_cases h0 : tt = 0
        · subst h0
          go_wp2_with fail
          refine bodyPost_ret (v := .tuple #[.int .i64 p0, .bool false]) (by simp [results, Tryz.results59, go_sem]) rfl ⟨?_, hBw.out⟩
          rw [HM.out, HST.out, if_pos (by simp), ← hp0'.out]; rfl
        · have h02 : ((tt : Int) == (0 : Int)) = false := by
            have : ¬ ((tt : Int) = 0) := by omega
            simpa using this
          have H0 : Hid _ := h0
          clear h0
          go_wp2_with (
            at_builtin
            go_must (refine wpList_append_lies _ (by rfl) _ _ 219 (by rfl) w.heap.size 220 i0 (.int .i64 0) 1 8 Tryz.underlying219 hi hz0 hz1 hz2 (by rfl) (by decide) _ _ _ (by rfl) (hown1.alloc _) ⟨w1.heap.size, 0, none⟩ 1 1 [.int .i64 tt] (by rfl) (by rfl) (World.news_of_block (heap_alloc_new w1 _)) (fun x hx => by simp at hx; rcases hx with rfl; rfl) (by decide) (by unfold maxLen; omega) (by omega) (by simp; omega) _ rfl ?_)
            intro g3 cap3 w3 hown3 hgrow3 hat hlt3)
          refine ⟨⟨k + 1, x.parts, its ++ [tc], by omega, by simp, ?_, ⟨by simp [HIL.out], ?_⟩, HNM3.out, HTR3.out, HIT3.out, ?_, below_far1 hBw.out hown1 hgrow3⟩, by simp [intOf]; omega⟩
          · show _ = _
            rw [HM.out, HST.out, if_neg (fun e => by rcases e with e | e; exact H0.out e; exact HNE.out e.1)]
          · intro c hc
            simp at hc
            rcases hc with hc | rfl
            · exact HIY.out c hc
            · exact hty2.out H0.out
          · have e : letTys (xs.take (k + 1)) (its ++ [tc]) = lts ++ [tt] := by
              rw [HTX.out, letTys_snoc _ _ _ _ (by rw [HIL.out]; simp; omega), if_neg HNE.out, HLT.out, HTT.out]
            rw [e]; simpa using hown3
      · have hkd : ((kd : Int) == (11 : Int)) = false := by
          have h1 := hO.2.1
          have : ¬ ((kd : Int) = 11) := by split at h1 <;> omega
          simpa using this
        have HNE : Hid _ := hO.1
        have hkd2 : ((kd : Int) != (11 : Int)) = true := by simpa using hkd
        clear hO hkd0
        go_wp2_with fail
        refine W1.mono ?_
        rintro e w1 ⟨rfl, hb1⟩
        clear W1 c0 c1 c2 c3 c4 c5 c6 c7 c8 c9
        have hz1' : w1.heap[wr.heap.size]? = _ := (hb1.block _ (lt_of_get hz0')).trans hz0'
        have hBw : Hid _ := hFw.out.trans (hb1.mono hFw.out.size)
        have hown1 := ownsRow_below hOwn.out hb1
        have hs1 := hBw.out.size
        obtain ⟨⟨z0, z1, z2, z3, z4, z5, z6, z7, z8, z9⟩, zf⟩ := it_cells hz1'
        clear hz1' hz0' hb1 hFw hOwn
        generalize wr.heap.size = bi at *
        by_cases h0 : tt = 0
        · subst h0
          go_wp2_with fail
          refine bodyPost_ret (v := .tuple #[.int .i64 p0, .bool false]) (by simp [results, Tryz.results59, go_sem]) rfl ⟨?_, hBw.out⟩
          rw [HM.out, HST.out, if_pos (by simp), ← hp0'.out]; rfl
        · have h02 : ((tt : Int) == (0 : Int)) = false := by
            have : ¬ ((tt : Int) = 0) := by omega
            simpa using this
          have H0 : Hid _ := h0
          clear h0
          by_cases h2 : tt = 2
          · subst h2
            clear h02
            go_wp2_with fail
            refine ⟨⟨k + 1, x.parts, its ++ [tc], by omega, by simp, ?_, ⟨by simp [HIL.out], ?_⟩, HNM3.out, HTR3.out, HIT3.out, ?_, hBw.out⟩, by simp [intOf]; omega⟩
            · show _ = _
              rw [HM.out, HST.out, if_neg (fun e => by rcases e with e | e; exact absurd e (by decide); simp at e)]
            · intro c hc
              simp at hc
              rcases hc with hc | rfl
              · exact HIY.out c hc
              · exact hty2.out H0.out
            · have e : letTys (xs.take (k + 1)) (its ++ [tc]) = lts := by
                rw [HTX.out, letTys_snoc _ _ _ _ (by rw [HIL.out]; simp; omega), if_pos HNE.out, HLT.out]
              rw [e]; exact hown1
          · have h22 : ((tt : Int) == (2 : Int)) = false := by
              have : ¬ ((tt : Int) = 2) := by omega
              simpa using this
            have H2 : Hid _ := h2
            clear h2
            go_wp2_with fail
            refine bodyPost_ret (v := .tuple #[.int .i64 p0, .bool false]) (by simp [results, Tryz.results59, go_sem]) rfl ⟨?_, hBw.out⟩
            rw [HM.out, HST.out, if_pos (.inr ⟨HNE.out, H2.out⟩), ← hp0'.out]; rfl
    · have hke : k = ys.length := by omega
      subst hke
      have hm : Hid (typesAt xs L xs [] = none) := by
        have := HM.out
        rw [List.drop_of_length_le (by rw [hlen.out]; exact Nat.le_refl _)] at this
        exact this
      go_wp2_with fail
      refine bodyPost_ret (v := .tuple #[.int .i64 0, .bool true]) (by simp [results, Tryz.results59, go_sem]) rfl ⟨?_, hbw⟩
      rw [hm.out]; rfl
end Go.Proofs.YtfkdailfcmnjlaaGreatDoor

namespace Go.Proofs.YtfkdailfcmnjlaaGreatDoor

theorem P_size (f : Nat) : ∀ (tag : Nat) (ts : List Tok) (i : Nat) (L : List Pt) (x : Nat) (r : Rd), P f tag ts i L x = some r → r.ok = true → (tag ≤ 6 ∨ tag = 10 ∨ tag = 11 ∨ tag = 13 ∨ tag = 14) → r.L.length + i ≤ L.length + r.i := by
  induction f with
  | zero => intro tag ts i L x r h; rw [P] at h; simp at h
  | succ f ih =>
    intro tag ts i L x r h ok ht
    by_cases h6 : tag = 6
    · subst h6
      by_cases hw : isW (tokAt ts i) wIf = true
      · obtain ⟨ra, rb, rc, hPa, hNb, hNc, hrc, hri, hrp⟩ := if_split h hw
        rw [hrc] at ok
        obtain ⟨oka, okb, rfl⟩ := hrp ok
        have ka := ih 6 ts (i + 1) L 0 ra hPa oka (by omega)
        unfold Nx at hNb hNc
        have hwb : isW (tokAt ts ra.i) wThen = true := by
          cases e : isW (tokAt ts ra.i) wThen with
          | true => rfl
          | false => rw [if_neg (by simp [e])] at hNb; rw [hNb.1] at okb; simp at okb
        have hwc : isW (tokAt ts rb.i) wElse = true := by
          cases e : isW (tokAt ts rb.i) wElse with
          | true => rfl
          | false => rw [if_neg (by simp [e])] at hNc; rw [hNc.1] at ok; simp at ok
        rw [if_pos ⟨oka, hwb⟩] at hNb
        rw [if_pos ⟨okb, hwc⟩] at hNc
        have kb := ih 6 ts (ra.i + 1) ra.L 0 rb hNb okb (by omega)
        have kc := ih 6 ts (rb.i + 1) rb.L 0 rc hNc ok (by omega)
        simp [put]; omega
      · exact ih 0 ts i L 0 r (if_not h hw) ok (by omega)
    · by_cases h5 : tag = 5
      · subst h5
        by_cases hw : isW (tokAt ts i) [40] = true
        · obtain ⟨ra, hPa, hr⟩ := one_open h hw
          rcases hr with ⟨oka, hwa, rfl⟩ | ⟨_, hr, _⟩
          · have ka := ih 6 ts (i + 1) L 0 ra hPa oka (by omega)
            simp; omega
          · rw [hr] at ok; simp at ok
        · rcases one_alone h hw with ⟨ha, rfl⟩ | ⟨_, rfl⟩
          · simp; omega
          · simp at ok
      · by_cases h2 : tag = 2
        · subst h2
          by_cases hw : isW (tokAt ts i) wNot = true
          · obtain ⟨ra, hPa, hra, hri, hrp⟩ := not_yes h hw
            rw [hra] at ok
            have hrp := hrp ok
            subst hrp
            have ka := ih 2 ts (i + 1) L 0 ra hPa ok (by omega)
            simp [put]; omega
          · exact ih 3 ts i L 0 r (not_no h hw) ok (by omega)
        · by_cases h10 : tag < 10
          · have hn : isChain tag := by unfold isChain; omega
            obtain ⟨ra, hPa, hr⟩ := chain_split hn h
            rcases hr with ⟨oka, hr⟩ | ⟨no, rfl⟩
            · unfold isChain at hn
              have ka := ih (tag + 1) ts i L 0 ra hPa oka (by omega)
              have kb := ih (10 + tag) ts ra.i ra.L ra.top r hr ok (by omega)
              omega
            · rw [no] at ok; simp at ok
          · obtain ⟨n, rfl⟩ : ∃ n, tag = 10 + n := ⟨tag - 10, by omega⟩
            have hn : isChain n := by unfold isChain; omega
            have hn' := hn
            unfold isChain at hn'
            cases hj : joins n (tokAt ts i) with
            | false =>
              have := loop_no hn h hj
              subst this
              simp
            | true =>
              obtain ⟨rb, hPb, hr⟩ := loop_yes hn h hj
              rcases hr with ⟨no, rfl⟩ | ⟨okb, hr⟩
              · rw [no] at ok; simp at ok
              · have kb := ih (n + 1) ts (i + 1) L 0 rb hPb okb (by omega)
                rcases hr with ⟨h3, rfl⟩ | ⟨h3, hr⟩
                · simp [put]; omega
                · have kc := ih (10 + n) ts rb.i _ _ r hr ok (by omega)
                  simp at kc; omega

theorem item_tree {F : Nat} {ts : List Tok} (hS : Sorted ts) {i : Nat} {L : List Pt} {r : ItR} (hO : OwnUp ts L i) (h : itemP F ts i L = some r) (ok : r.ok = true) :
    i < r.i ∧ (∃ new, r.L = L ++ new) ∧ Tree r.L L.length r.it.top ∧ r.it.top + 1 = r.it.parts ∧ r.it.parts = r.L.length ∧ OwnUp ts r.L r.i ∧ r.L.length + i ≤ L.length + r.i := by
  have tail : ∀ (j : Nat) (x : Itm), i < j → itemTail F ts j L x = some r → i < r.i ∧ (∃ new, r.L = L ++ new) ∧ Tree r.L L.length r.it.top ∧ r.it.top + 1 = r.it.parts ∧ r.it.parts = r.L.length ∧ OwnUp ts r.L r.i ∧ r.L.length + i ≤ L.length + r.i := by
    intro j x hj hr
    obtain ⟨a, ha, hres⟩ := tail_parts hr
    rcases hres with ⟨oka, hw, rfl⟩ | ⟨_, hr1, _⟩
    · have f1 := (P_fwd F 6 ts j L 0 a ha oka (by omega)).1
      obtain ⟨t1, t2, t3⟩ := P_tree hS F 6 j L 0 L.length a ha oka (by omega) (hO.mono (by omega)) (fun _ => rfl) (by omega)
      have t4 := P_size F 6 ts j L 0 a ha oka (by omega)
      exact ⟨by simp; omega, P_new ha oka (by omega), t2, t1, rfl, t3.mono (by simp), by simp; omega⟩
    · rw [hr1] at ok; simp at ok
  unfold itemP at h
  split at h
  · split at h
    · split at h
      · exact tail _ _ (by omega) h
      · simp [itFail] at h; subst h; simp at ok
    · simp [itFail] at h; subst h; simp at ok
  · split at h
    · split at h
      · exact tail _ _ (by omega) h
      · simp [itFail] at h; subst h; simp at ok
    · simp [itFail] at h; subst h; simp at ok

theorem item_end {F : Nat} {ts : List Tok} {i : Nat} {L : List Pt} {r : ItR} (h : itemP F ts i L = some r) (ok : r.ok = true) : r.i ≤ ts.length := by
  have tail : ∀ (j : Nat) (x : Itm), itemTail F ts j L x = some r → r.i ≤ ts.length := by
    intro j x hr
    obtain ⟨a, ha, hres⟩ := tail_parts hr
    rcases hres with ⟨oka, hw, rfl⟩ | ⟨_, hr1, _⟩
    · have := (inside (ts := ts) (i := a.i) fun e => by rw [e, noTok_isW] at hw; simp at hw).1
      simp only []; omega
    · rw [hr1] at ok; simp at ok
  unfold itemP at h
  split at h
  · split at h
    · split at h
      · exact tail _ _ h
      · simp [itFail] at h; subst h; simp at ok
    · simp [itFail] at h; subst h; simp at ok
  · split at h
    · split at h
      · exact tail _ _ h
      · simp [itFail] at h; subst h; simp at ok
    · simp [itFail] at h; subst h; simp at ok
theorem TreesAt.snoc {L : List Pt} {xs : List Itm} {fr : Nat} (h : TreesAt L xs fr) (new : List Pt) (x : Itm) (h1 : Tree (L ++ new) L.length x.top) (h2 : x.top + 1 = x.parts) (h3 : x.parts = (L ++ new).length) : TreesAt (L ++ new) (xs ++ [x]) fr := by
  induction xs generalizing fr with
  | nil =>
    have : fr = L.length := h
    subst this
    exact ⟨h1, h2, h3⟩
  | cons y r ih =>
    obtain ⟨a, b, c⟩ := h
    exact ⟨a.more ⟨new, rfl⟩, b, ih c⟩

theorem parse_trees {F : Nat} {ts : List Tok} (hS : Sorted ts) (g : Nat) : ∀ (i : Nat) (L : List Pt) (xs : List Itm) (R : AllR), TreesAt L xs 0 → OwnUp ts L i → L.length ≤ i → i ≤ ts.length → parseAll F ts g i L xs = some R → R.ok = true → TreesAt R.L R.xs 0 ∧ OwnUp ts R.L R.i ∧ R.L.length ≤ R.i ∧ R.i ≤ ts.length := by
  induction g with
  | zero => intro i L xs R _ _ _ _ h; rw [parseAll] at h; simp at h
  | succ g ih =>
    intro i L xs R hT hO hl hi h ok
    by_cases hk : (tokAt ts i).k = 101
    · have := parse_end h hk; subst this; exact ⟨hT, hO, hl, hi⟩
    · rw [parseAll, if_neg hk] at h
      cases hr : itemP F ts i L with
      | none => rw [hr] at h; simp at h
      | some r =>
        rw [hr] at h
        simp only at h
        by_cases okr : r.ok = true
        · rw [if_pos okr] at h
          obtain ⟨k1, ⟨new, e⟩, k2, k3, k4, k5, k6⟩ := item_tree hS hO hr okr
          have hri : r.i ≤ ts.length := item_end hr okr
          rw [e] at k2 k4 k5 k6 h
          exact ih r.i (L ++ new) (xs ++ [r.it]) R (hT.snoc new r.it k2 k3 k4) k5 (by omega) hri h ok
        · rw [if_neg okr] at h; simp at h; subst h; simp at ok
end Go.Proofs.YtfkdailfcmnjlaaGreatDoor

namespace Go.Proofs.YtfkdailfcmnjlaaGreatDoor
open Go Go.RowKit
set_option maxRecDepth 100000
variable {bs : Nat}

/-- What is known of words. -/
structure WordsOK (ts : List Tok) (a : Nat) : Prop where
  sorted : Sorted ts
  tokw : ∀ t ∈ ts, TokW t
  own : ∀ t ∈ ts, t.k = 111 → t.text ≠ []
  from_ : ∀ t ∈ ts, a ≤ t.pl
  pos : 0 < ts.length
  fin : kindOf (tokAt ts (ts.length - 1)) = 0

theorem tokAt_cons (t : Tok) (ts : List Tok) (n : Nat) : tokAt (t :: ts) (n + 1) = tokAt ts n := by unfold tokAt; simp
theorem tokAt_zero (t : Tok) (ts : List Tok) : tokAt (t :: ts) 0 = t := by unfold tokAt; simp

theorem lex_words (l : List UInt8) (f : Nat) : ∀ (a : Nat) (ts : List Tok), a ≤ l.length → l.length - a < f → lex f l a = (ts, none) → WordsOK ts a ∧ ts.length ≤ l.length - a + 1 := by
  induction f with
  | zero => intro a ts _ h; omega
  | succ f ih =>
    intro a ts ha hf h
    have h1 := stop_ge isB l a
    have h2 := stop_le isB l a ha
    rw [lex] at h
    by_cases he : l.length ≤ stop isB l a
    · rw [if_pos he] at h; simp at h; subst h
      refine ⟨⟨?_, ?_, ?_, ?_, by simp, by simp [tokAt, kindOf]⟩, by simp⟩
      · intro m n hm hn; simp at hn; omega
      · intro t ht; simp at ht; subst ht; exact .inr (.inr (.inl rfl))
      · intro t ht; simp at ht; subst ht; simp
      · intro t ht; simp at ht; subst ht; exact ha
    · rw [if_neg he] at h
      cases hw : wordAt l (stop isB l a) with
      | none => rw [hw] at h; simp at h
      | some t =>
        rw [hw] at h
        simp only [Prod.mk.injEq] at h
        obtain ⟨rfl, hn⟩ := h
        obtain ⟨w1, w2, w3, w4⟩ := wordAt_len (by omega) hw
        obtain ⟨i1, i2⟩ := ih (stop isB l a + t.text.length) (lex f l (stop isB l a + t.text.length)).1 (by omega) (by omega) (by rw [← hn])
        generalize (lex f l (stop isB l a + t.text.length)).1 = us at *
        have htail : ∀ n, n < us.length → stop isB l a + t.text.length ≤ (tokAt us n).pl := fun n hn => i1.from_ _ (tokAt_mem hn)
        refine ⟨⟨?_, ?_, ?_, ?_, by simp, ?_⟩, by simp; omega⟩
        · intro m n hm hn
          cases n with
          | zero => omega
          | succ n =>
            simp at hn
            rw [tokAt_cons]
            cases m with
            | zero => rw [tokAt_zero, w3]; have := htail n hn; omega
            | succ m => rw [tokAt_cons]; exact i1.sorted m n (by omega) hn
        · intro u hu; simp at hu; rcases hu with rfl | hu
          · exact lex_tokW l _ (by omega) _ hw
          · exact i1.tokw u hu
        · intro u hu; simp at hu; rcases hu with rfl | hu
          · intro _ e; rw [e] at w1; simp at w1
          · exact i1.own u hu
        · intro u hu; simp at hu; rcases hu with rfl | hu
          · omega
          · have := i1.from_ u hu; omega
        · have hp := i1.pos
          have e : (t :: us).length - 1 = (us.length - 1) + 1 := by simp; omega
          rw [e, tokAt_cons]; exact i1.fin

/-- A row of words, its cells. -/
theorem wrow_cells {w : World} {base g cap : Nat} {ts : List Tok} (hp : 0 < ts.length) (h : w.ownsRow base 160 4 (.slice (some ⟨g, 0, none⟩) ts.length cap) ts.length (wCells ts)) :
    (∃ cs, w.heap[g]? = some (.cells cs 160 (0, 0))) ∧ ∀ i, i < ts.length → w.cell? ⟨g, i * 4, none⟩ = some (.int .i64 (kindOf (tokAt ts i))) ∧ w.cell? ⟨g, i * 4 + 1, none⟩ = some (.int .i64 (tokAt ts i).pl) ∧ w.cell? ⟨g, i * 4 + 2, none⟩ = some (.int .i64 (nmOf (tokAt ts i))) ∧ w.cell? ⟨g, i * 4 + 3, none⟩ = some (S (ownOf (tokAt ts i))) := by
  obtain ⟨hl, h⟩ := h
  rcases h with ⟨h0, _⟩ | ⟨g', cap', cur, e, hb, hg, h1, h2, h3, h4⟩
  · simp at h0
  · simp only [Value.slice.injEq, Option.some.injEq, Addr.mk.injEq] at e
    obtain ⟨⟨rfl, _⟩, _, rfl⟩ := e
    refine ⟨⟨cur, hg⟩, fun i hi => ?_⟩
    have key : ∀ j, j < 4 → w.cell? ⟨g, i * 4 + j, none⟩ = (wcell (tokAt ts i))[j]? := fun j hj => by
      rw [cell_of_row w g (i * 4 + j) _ _ _ hg]
      have e1 : cur[i * 4 + j]? = (cur.toList.take (ts.length * 4))[i * 4 + j]? := by
        rw [List.getElem?_take_of_lt (by omega)]; simp
      rw [e1, h4]
      have : ∀ (ts : List Tok) (k : Nat), k < ts.length → (wCells ts)[k * 4 + j]? = (wcell (tokAt ts k))[j]? := by
        intro ts
        induction ts with
        | nil => intro k hk; simp at hk
        | cons y ys ih =>
          intro k hk
          have e2 : wCells (y :: ys) = wcell y ++ wCells ys := rfl
          have e3 : (wcell y).length = 4 := rfl
          cases k with
          | zero => rw [e2, List.getElem?_append_left (by omega), tokAt_zero]; simp
          | succ k =>
            rw [e2, List.getElem?_append_right (by omega), e3, show (k + 1) * 4 + j - 4 = k * 4 + j from by omega, ih k (by simpa using hk), tokAt_cons]
      exact this ts i hi
    exact ⟨key 0 (by omega), key 1 (by omega), key 2 (by omega), key 3 (by omega)⟩
/-- What is known of a text's parts and items. -/
theorem all_known {F g : Nat} {ts : List Tok} {R : AllR} (hw : WordsOK ts 0) (hl : ts.length ≤ 1001) (h : parseAll F ts g 0 [] [] = some R) (ok : R.ok = true) :
    TreesAt R.L R.xs 0 ∧ PartsOK R.L ∧ (∀ k, k < R.L.length → TokW (R.L.getD k noPt).tok) := by
  obtain ⟨h1, h2, h3, h4⟩ := parse_trees hw.sorted g 0 [] [] R rfl ⟨by simp, by simp, by simp⟩ (by simp) (by omega) h ok
  refine ⟨h1, ⟨h2.2.1, fun k hk ho => hw.own _ (h2.2.2 k hk) ho, by omega⟩, fun k hk => hw.tokw _ (h2.2.2 k hk)⟩
end Go.Proofs.YtfkdailfcmnjlaaGreatDoor

namespace Go.Proofs.YtfkdailfcmnjlaaGreatDoor
open Go Go.RowKit
set_option maxRecDepth 100000
attribute [local go_sem ↓] Go.wp_at_zero Go.wp_at_succ

/-- The policy lies there as it was read. -/
structure PolAt (bs : Nat) (L : List Pt) (xs : List Itm) (base : Nat) (v : Value) (ys : List (Tok × Tok × Nat × Int)) (w : World) : Prop where
  row : w.ownsRow base 163 10 v ys.length (iCells ys)
  few : ys.length ≤ 1001
  items : ItemsAt (CondS bs L (N1 (idx (giv xs))) w) xs ys
  trees : TreesAt L xs 0
  parts : PartsOK L
  tokw : ∀ k, k < L.length → TokW (L.getD k noPt).tok
  names : namesAt xs L xs 0 0 = none
  types : typesAt xs L xs [] = none
  numb : Numb 0 0 xs ys
  many : manyAt L xs 0 0 = none
/-- What 'Read' answers. -/
def RdAns (er pl : Nat) (L : List Pt) (xs : List Itm) (w : World) (e : Ending) (w' : World) : Prop :=
  Below w.heap.size w w' ∧ ∃ v, e = .returned (.tuple #[v, .int .i64 er, .int .i64 pl]) ∧ (er = 0 → ∃ bs ys, w.heap.size ≤ bs ∧ PolAt bs L xs w.heap.size v ys w')

set_option maxHeartbeats 1000000 in
theorem pread_long (l : List UInt8) (w : World) (h : 1000 < l.length) (hm : l.length ≤ maxLen) (L : List Pt) (xs : List Itm) : Calls Tryz.prog 32 #[S l] w (RdAns 1 0 L xs w) := by
  unfold maxLen at hm
  go_enter Tryz.func32, Tryz.ntmps32
  go_wp2_with fail
  refine bodyPost_ret (v := .tuple #[.slice none 0 0, .int .i64 1, .int .i64 0]) (by simp [results, Tryz.results32, go_sem]) rfl ?_
  exact ⟨Below.refl _ _, _, rfl, fun e => by simp at e⟩

set_option maxHeartbeats 1000000 in
theorem pread_word (l : List UInt8) (w : World) (hW : Wd w) (h : l.length ≤ 1000) (ts : List Tok) (p : Nat) (hx : lex (l.length + 1) l 0 = (ts, some p)) (L : List Pt) (xs : List Itm) : Calls Tryz.prog 32 #[S l] w (RdAns 2 p L xs w) := by
  have HS := split_any l w hW h
  unfold SplitAns at HS
  rw [hx] at HS
  simp only [] at HS
  go_enter Tryz.func32, Tryz.ntmps32
  go_wp2_with fail
  refine HS.mono ?_
  rintro e w1 ⟨hb, rfl⟩
  clear HS
  go_wp2_with fail
  refine bodyPost_ret (v := .tuple #[.slice none 0 0, .int .i64 2, .int .i64 p]) (by simp [results, Tryz.results32, go_sem]) rfl ?_
  exact ⟨hb, _, rfl, fun e => by simp at e⟩

theorem ItemsAt.grow {bs : Nat} {L : List Pt} {N : Tok → Int → Prop} {w w' : World} (hb : Below w.heap.size w w') {xs : List Itm} {ys : List (Tok × Tok × Nat × Int)} (h : ItemsAt (CondS bs L N w) xs ys) : ItemsAt (CondS bs L N w') xs ys := h.mono fun _ _ h => h.grow hb

set_option maxHeartbeats 4000000 in
theorem pread_items (l : List UInt8) (w : World) (hW : Wd w) (h : l.length ≤ 1000) (ts : List Tok) (hx : lex (l.length + 1) l 0 = (ts, none)) {F g : Nat} {R : AllR} (hR : parseAll F ts g 0 [] [] = some R) :
    Calls Tryz.prog 32 #[S l] w (RdAns (verdictOf ts R).1 (verdictOf ts R).2 R.L R.xs w) := by
  obtain ⟨hwo, hwl⟩ := lex_words l (l.length + 1) 0 ts (Nat.zero_le _) (by omega) hx
  have HS := split_any l w hW h
  unfold SplitAns at HS
  rw [hx] at HS
  simp only [] at HS
  have HR : Hid _ := hR
  have HWO : Hid _ := hwo
  have hwl' : ts.length ≤ 1001 := by omega
  have hV : Hid (verdictOf ts R = verdictOf ts R) := rfl
  generalize hv : verdictOf ts R = vd at *
  have HV : Hid _ := hv
  clear hx hR hwo hwl hW hV hv
  go_enter Tryz.func32, Tryz.ntmps32
  go_wp2_with fail
  refine HS.mono ?_
  rintro e w1 ⟨hb1, gw, cap, rfl, hown1⟩
  clear HS
  obtain ⟨hwl1, hwc1⟩ := wrow_cells HWO.out.pos hown1
  have W1 := parse_any (F := F) (cl := cap) (w := w1) HWO.out.tokw HWO.out.own HWO.out.pos hwl' HWO.out.fin hwl1 hwc1 HR.out
  have HB1 : Hid _ := hb1
  clear hown1 hwl1 hwc1 hb1
  go_wp2_with fail
  refine W1.mono ?_
  rintro e w2 ⟨hb2, ⟨ok, rfl⟩ | ⟨ok, v, ys, rfl, hys, hrow, hit, hnu⟩⟩
  · clear W1
    have HE : Hid (vd = (3, (tokAt ts R.i).pl)) := by show _ = _; rw [← HV.out]; unfold verdictOf; rw [if_pos ok]
    have HB2 : Hid _ := HB1.out.trans (hb2.mono HB1.out.size)
    clear hb2 ok
    generalize (tokAt ts R.i).pl = pp at *
    go_wp2_with fail
    refine bodyPost_ret (v := .tuple #[.slice none 0 0, .int .i64 3, .int .i64 pp]) (by simp [results, Tryz.results32, go_sem]) rfl ?_
    rw [HE.out]
    exact ⟨HB2.out, _, rfl, fun e => by simp at e⟩
  · clear W1
    obtain ⟨htr, hpo, htw⟩ := all_known HWO.out hwl' HR.out ok
    have hit2 : ItemsAt (CondS w1.heap.size R.L (N0 (idx (giv R.xs))) w2) R.xs ys := hit.mono fun i b hc => hc.toS fun k hk => .inl rfl
    have W2 := fit_any hpo.few hrow hys hit2 htr hnu
    have HB2 : Hid _ := HB1.out.trans (hb2.mono HB1.out.size)
    have HTR : Hid _ := htr
    have HPO : Hid (PartsOK R.L) := hpo
    have HTW : Hid _ := htw
    have HIT : Hid _ := hit2
    have HROW : Hid (w2.ownsRow w.heap.size 163 10 v ys.length (iCells ys)) := by
      obtain ⟨q1, q2⟩ := hrow
      refine ⟨q1, ?_⟩
      rcases q2 with q2 | ⟨g', c', cur, q3, q4, q5⟩
      · exact .inl q2
      · exact .inr ⟨g', c', cur, q3, Nat.le_trans HB1.out.size q4, q5⟩
    have HOK : Hid _ := ok
    have HSB : Hid (w.heap.size ≤ w1.heap.size) := HB1.out.size
    clear htr hpo htw hit hit2 hrow hb2 ok HB1
    cases hm : manyAt R.L R.xs 0 0 with
    | some p =>
      rw [hm] at W2
      have HE : Hid (vd = (4, p)) := by show _ = _; rw [← HV.out]; unfold verdictOf; rw [if_neg (by rw [HOK.out]; simp), hm]
      clear hm
      unfold plcV at W2
      go_wp2_with fail
      refine W2.mono ?_
      rintro e w3 ⟨rfl, hb3⟩
      clear W2
      go_wp2_with fail
      refine bodyPost_ret (v := .tuple #[.slice none 0 0, .int .i64 4, .int .i64 p]) (by simp [results, Tryz.results32, go_sem]) rfl ?_
      rw [HE.out]
      exact ⟨HB2.out.trans (hb3.mono HB2.out.size), _, rfl, fun e => by simp at e⟩
    | none =>
      rw [hm] at W2
      have HM : Hid _ := hm
      clear hm
      unfold plcV at W2
      go_wp2_with fail
      refine W2.mono ?_
      rintro e w3 ⟨rfl, hb3⟩
      clear W2
      have hrow3 := ownsRow_below HROW.out hb3
      have W3 := resolve_any HPO.out hrow3 hys (HIT.out.grow hb3) HTR.out
      have HB3 : Hid _ := HB2.out.trans (hb3.mono HB2.out.size)
      have HROW3 : Hid _ := hrow3
      clear HB2 HROW HIT hb3 hrow3
      go_wp2_with fail
      refine W3.mono ?_
      rintro e w4 (⟨p, hn, rfl, hf⟩ | ⟨hn, rfl, hf, hit4⟩)
      · clear W3
        have HE : Hid (vd = (5, p)) := by show _ = _; rw [← HV.out]; unfold verdictOf; rw [if_neg (by rw [HOK.out]; simp), HM.out]; simp only []; rw [hn]
        clear hn
        go_wp2_with fail
        refine bodyPost_ret (v := .tuple #[.slice none 0 0, .int .i64 5, .int .i64 p]) (by simp [results, Tryz.results32, go_sem]) rfl ?_
        rw [HE.out]
        exact ⟨HB3.out.trans (hf.below HSB.out HB3.out.size), _, rfl, fun e => by simp at e⟩
      · clear W3
        have hrow4 := ownsRow_rf HROW3.out (by decide) hf
        have W4 := typed_any HPO.out HTW.out hrow4 hys hit4 HTR.out hn
        have HF4 : Hid (Below w.heap.size w w4) := HB3.out.trans ((hf.mono fun _ _ _ _ h => h.1 : RF (SB w1.heap.size) w3 w4).below HSB.out HB3.out.size)
        have HIT4 : Hid _ := hit4
        have HN : Hid _ := hn
        have HROW4 : Hid _ := hrow4
        clear hit4 hn hrow4 hf HB3 HROW3
        cases ht : typesAt R.xs R.L R.xs [] with
        | some p =>
          rw [ht] at W4
          have HE : Hid (vd = (6, p)) := by show _ = _; rw [← HV.out]; unfold verdictOf; rw [if_neg (by rw [HOK.out]; simp), HM.out]; simp only []; rw [HN.out]; simp only []; rw [ht]
          clear ht
          unfold plcV at W4
          go_wp2_with fail
          refine W4.mono ?_
          rintro e w5 ⟨rfl, hb5⟩
          clear W4
          go_wp2_with fail
          refine bodyPost_ret (v := .tuple #[.slice none 0 0, .int .i64 6, .int .i64 p]) (by simp [results, Tryz.results32, go_sem]) rfl ?_
          rw [HE.out]
          exact ⟨HF4.out.trans (hb5.mono HF4.out.size), _, rfl, fun e => by simp at e⟩
        | none =>
          rw [ht] at W4
          have HE : Hid (vd = (0, 0)) := by show _ = _; rw [← HV.out]; unfold verdictOf; rw [if_neg (by rw [HOK.out]; simp), HM.out]; simp only []; rw [HN.out]; simp only []; rw [ht]
          have HTY : Hid _ := ht
          clear ht
          unfold plcV at W4
          go_wp2_with fail
          refine W4.mono ?_
          rintro e w5 ⟨rfl, hb5⟩
          clear W4
          go_wp2_with fail
          refine bodyPost_ret (v := .tuple #[v, .int .i64 0, .int .i64 0]) (by simp [results, Tryz.results32, go_sem]) rfl ?_
          rw [HE.out]
          exact ⟨HF4.out.trans (hb5.mono HF4.out.size), _, rfl, fun _ => ⟨w1.heap.size, ys, HSB.out, ownsRow_below HROW4.out hb5, hys, HIT4.out.grow hb5, HTR.out, HPO.out, HTW.out, HN.out, HTY.out, hnu, HM.out⟩⟩
end Go.Proofs.YtfkdailfcmnjlaaGreatDoor
