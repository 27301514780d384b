/-
  Plain Lean functions that say what the document asks of a policy's text (words, parts, items, limits, names, types), and the first functions of the document's reader.
-/
import GoSem.Op.String
import Derived.Test.YtfkdailfcmnjlaaGreatDoorProg
import Derived.WalkKit
import Derived.Deep.QuietTactic
import Derived.BigQuiet
import Derived.WalkSpells
import Derived.Deep.AppendLies
import Derived.Deep.RegionHeld3
import Derived.Deep.DrawnRows
set_option linter.unusedVariables false
set_option linter.unusedSimpArgs false
namespace Go.Proofs.YtfkdailfcmnjlaaGreatDoor

/-- Where a run of bytes of one kind ends that begins at a place. -/
def stop (p : UInt8 → Bool) (l : List UInt8) (k : Nat) : Nat := k + ((l.drop k).takeWhile p).length

theorem stop_step (p : UInt8 → Bool) (l : List UInt8) (k : Nat) (h : k < l.length) (hp : p l[k] = true) : stop p l k = stop p l (k + 1) := by
  unfold stop
  rw [List.drop_eq_getElem_cons h, List.takeWhile_cons_of_pos hp]
  simp; omega
theorem stop_no (p : UInt8 → Bool) (l : List UInt8) (k : Nat) (h : k < l.length) (hp : p l[k] = false) : stop p l k = k := by
  unfold stop
  rw [List.drop_eq_getElem_cons h, List.takeWhile_cons_of_neg (by simp [hp])]
  simp
theorem stop_end (p : UInt8 → Bool) (l : List UInt8) (k : Nat) (h : l.length ≤ k) : stop p l k = k := by
  unfold stop
  rw [List.drop_of_length_le h]; simp
theorem stop_ge (p : UInt8 → Bool) (l : List UInt8) (k : Nat) : k ≤ stop p l k := by unfold stop; omega
theorem stop_le (p : UInt8 → Bool) (l : List UInt8) (k : Nat) (h : k ≤ l.length) : stop p l k ≤ l.length := by
  unfold stop
  have h1 : ((l.drop k).takeWhile p).length ≤ (l.drop k).length := (List.takeWhile_sublist p).length_le
  rw [List.length_drop] at h1; omega

def isD (c : UInt8) : Bool := decide (48 ≤ c.toNat) && decide (c.toNat ≤ 57)
def isL (c : UInt8) : Bool := decide (97 ≤ c.toNat) && decide (c.toNat ≤ 122)
def isB (c : UInt8) : Bool := c.toNat == 32 || c.toNat == 10
def isZ (c : UInt8) : Bool := c.toNat == 48

/-- The bytes from a place up to another. -/
def cut (l : List UInt8) (a b : Nat) : List UInt8 := (l.drop a).take (b - a)

/-- The number that digits tell. -/
def decVal (l : List UInt8) : Nat := l.foldl (fun n c => n * 10 + (c.toNat - 48)) 0

/-- The place of a string in a list, or -1. -/
def idx (l : List (List UInt8)) (s : List UInt8) : Int := match l with
  | [] => -1
  | x :: r => if x == s then 0 else (if idx r s < 0 then -1 else idx r s + 1)

theorem idx_ge (l : List (List UInt8)) (s : List UInt8) : -1 ≤ idx l s := by
  induction l with
  | nil => simp [idx]
  | cons x r ih => unfold idx; split; omega; split <;> omega

theorem idx_drop (l : List (List UInt8)) (s : List UInt8) (k : Nat) (hk : k < l.length) : idx (l.drop k) s = if l[k] == s then 0 else (if idx (l.drop (k+1)) s < 0 then -1 else idx (l.drop (k+1)) s + 1) := by
  rw [List.drop_eq_getElem_cons hk, idx]

def kMembers : List (List UInt8) := [[110, 111, 110, 101], [105, 110, 118, 105, 116, 101], [106, 111, 105, 110], [108, 101, 97, 118, 101], [98, 97, 110]]
def kFields : List (List UInt8) := [[108, 101, 118, 101, 108], [114, 97, 110, 107], [110, 101, 101, 100], [119, 104, 101, 110], [115, 101, 110, 100, 101, 114], [116, 97, 114, 103, 101, 116], [119, 97, 110, 116, 115], [115, 101, 108, 102], [111, 112, 101, 110]]
def kOthers : List (List UInt8) := [[108, 101, 116], [97, 108, 108, 111, 119], [100, 101, 110, 121], [105, 102], [116, 104, 101, 110], [101, 108, 115, 101], [111, 114], [97, 110, 100], [110, 111, 116], [116, 114, 117, 101], [102, 97, 108, 115, 101]]

/-- Is a name a keyword? -/
def isKw (s : List UInt8) : Bool := decide (0 ≤ idx kMembers s) || decide (0 ≤ idx kFields s) || decide (0 ≤ idx kOthers s)

/-- Is a number too great? -/
def big (s : List UInt8) : Bool := decide (9223372036854775807 < decVal s)

/-- A word: its kind (110 a number, 111 an own name, 107 a keyword, 115 a sign, 101 the end), its text, its place. -/
structure Tok where
  k : Nat
  text : List UInt8
  pl : Nat

/-- The word that begins at a place. -/
def wordAt (l : List UInt8) (a : Nat) : Option Tok :=
  if a < stop isD l a then (if big (cut l a (stop isD l a)) then none else some ⟨110, cut l a (stop isD l a), a⟩)
  else if a < stop isL l a then
    (if isKw (cut l a (stop isL l a)) then some ⟨107, cut l a (stop isL l a), a⟩
     else if stop isL l a - a ≤ 8 then some ⟨111, cut l a (stop isL l a), a⟩ else none)
  else match l[a]? with
    | none => none
    | some c =>
      if c.toNat = 60 then (if (l.getD (a + 1) 0).toNat = 61 then some ⟨115, [60, 61], a⟩ else some ⟨115, [60], a⟩)
      else if c.toNat = 40 ∨ c.toNat = 41 ∨ c.toNat = 59 ∨ c.toNat = 43 ∨ c.toNat = 45 ∨ c.toNat = 61 then some ⟨115, [c], a⟩
      else none

/-- The words from a place on; or the place at which none begins. -/
def lex : Nat → List UInt8 → Nat → List Tok × Option Nat
  | 0, _, _ => ([], none)
  | f + 1, l, a =>
    if l.length ≤ stop isB l a then ([⟨101, [], l.length⟩], none)
    else match wordAt l (stop isB l a) with
      | none => ([], some (stop isB l a))
      | some t => (t :: (lex f l (stop isB l a + t.text.length)).1, (lex f l (stop isB l a + t.text.length)).2)
end Go.Proofs.YtfkdailfcmnjlaaGreatDoor

namespace Go.Proofs.YtfkdailfcmnjlaaGreatDoor
open Go

def kMost : List UInt8 := [57, 50, 50, 51, 51, 55, 50, 48, 51, 54, 56, 53, 52, 55, 55, 53, 56, 48, 55]
def gtB (a b : List UInt8) : Bool := !Op.bytesLess a b && !a == b
def greatB (s : List UInt8) : Bool := decide (19 < (s.drop (stop isZ s 0)).length) || (decide ((s.drop (stop isZ s 0)).length = 19) && gtB (s.drop (stop isZ s 0)) kMost)


def dv (n : Nat) (l : List UInt8) : Nat := l.foldl (fun n c => n * 10 + (c.toNat - 48)) n
theorem dv_cons (n : Nat) (c : UInt8) (l : List UInt8) : dv n (c :: l) = dv (n * 10 + (c.toNat - 48)) l := by unfold dv; rw [List.foldl_cons]
theorem mul_shift (n c M : Nat) : (n * 10 + c) * M = n * (M * 10) + c * M := by
  rw [Nat.add_mul, Nat.mul_assoc, Nat.mul_comm 10 M]
theorem dv_acc (l : List UInt8) : ∀ n, dv n l = n * 10 ^ l.length + dv 0 l := by
  induction l with
  | nil => intro n; simp [dv]
  | cons c l ih =>
    intro n
    have h1 := ih (n * 10 + (c.toNat - 48))
    have h2 := ih (0 * 10 + (c.toNat - 48))
    rw [dv_cons n, dv_cons 0, h1, h2, List.length_cons, Nat.pow_succ, mul_shift, mul_shift, Nat.zero_mul, Nat.zero_add, Nat.add_assoc]
theorem isD_le {c : UInt8} (h : isD c = true) : 48 ≤ c.toNat ∧ c.toNat ≤ 57 := by simpa [isD] using h
theorem dv_lt (l : List UInt8) (h : ∀ c ∈ l, isD c = true) : dv 0 l < 10 ^ l.length := by
  induction l with
  | nil => simp [dv]
  | cons c l ih =>
    have hc := isD_le (h c (by simp))
    have := ih (fun d hd => h d (by simp [hd]))
    rw [dv_cons, dv_acc l (0 * 10 + (c.toNat - 48)), List.length_cons, Nat.pow_succ]
    have h9 : (0 * 10 + (c.toNat - 48)) * 10 ^ l.length ≤ 9 * 10 ^ l.length := Nat.mul_le_mul_right _ (by omega)
    omega
theorem dv_ge (c : UInt8) (l : List UInt8) (h : 49 ≤ c.toNat) : 10 ^ l.length ≤ dv 0 (c :: l) := by
  rw [dv_cons, dv_acc l (0 * 10 + (c.toNat - 48))]
  have h9 : 1 * 10 ^ l.length ≤ (0 * 10 + (c.toNat - 48)) * 10 ^ l.length := Nat.mul_le_mul_right _ (by omega)
  omega

theorem less_dv (a : List UInt8) : ∀ b : List UInt8, a.length = b.length → (∀ c ∈ a, isD c = true) → (∀ c ∈ b, isD c = true) → Op.bytesLess a b = decide (dv 0 a < dv 0 b) := by
  induction a with
  | nil => intro b hl _ _; cases b with
    | nil => simp [Op.bytesLess]
    | cons => simp at hl
  | cons x a ih =>
    intro b hl ha hb
    cases b with
    | nil => simp at hl
    | cons y b =>
      have hl' : a.length = b.length := by simpa using hl
      have hx := isD_le (ha x (by simp))
      have hy := isD_le (hb y (by simp))
      have ia := dv_lt a (fun d hd => ha d (by simp [hd]))
      have ib := dv_lt b (fun d hd => hb d (by simp [hd]))
      have i := ih b hl' (fun d hd => ha d (by simp [hd])) (fun d hd => hb d (by simp [hd]))
      rw [Op.bytesLess, i, dv_cons, dv_cons, dv_acc a (0 * 10 + (x.toNat - 48)), dv_acc b (0 * 10 + (y.toNat - 48)), hl']
      rw [hl'] at ia
      generalize 10 ^ b.length = M at *
      by_cases h1 : x < y
      · have h2 : x.toNat < y.toNat := UInt8.lt_iff_toNat_lt.1 h1
        have h3 : (0 * 10 + (x.toNat - 48) + 1) * M ≤ (0 * 10 + (y.toNat - 48)) * M := Nat.mul_le_mul_right _ (by omega)
        rw [Nat.add_mul (0 * 10 + (x.toNat - 48)) 1 M] at h3
        simp only [h1, decide_true, Bool.true_or]
        exact (decide_eq_true (by omega)).symm
      · by_cases h2 : x = y
        · subst h2
          simp
        · have h3 : y.toNat < x.toNat := by
            have h4 : ¬ x.toNat < y.toNat := fun h => h1 (UInt8.lt_iff_toNat_lt.2 h)
            have h5 : x.toNat ≠ y.toNat := fun h => h2 (UInt8.toNat_inj.1 h)
            omega
          have h6 : (0 * 10 + (y.toNat - 48) + 1) * M ≤ (0 * 10 + (x.toNat - 48)) * M := Nat.mul_le_mul_right _ (by omega)
          rw [Nat.add_mul (0 * 10 + (y.toNat - 48)) 1 M] at h6
          have h7 : (x == y) = false := by simp [h2]
          simp only [h1, h7, decide_false, Bool.false_or, Bool.false_and]
          exact (decide_eq_false (by omega)).symm

theorem gtB_less (a : List UInt8) : ∀ b : List UInt8, gtB a b = Op.bytesLess b a := by
  induction a with
  | nil => intro b; cases b <;> simp [gtB, Op.bytesLess]
  | cons x a ih =>
    intro b
    cases b with
    | nil => simp [gtB, Op.bytesLess]
    | cons y b =>
      have i := ih b
      unfold gtB at i ⊢
      rw [Op.bytesLess, Op.bytesLess, ← i]
      by_cases h : x = y
      · subst h; simp
      · have h7 : (y == x) = false := by simp [Ne.symm h]
        have h8 : (x == y) = false := by simp [h]
        have h9 : (y < x) ↔ ¬ (x < y) := by
          rw [UInt8.lt_iff_toNat_lt, UInt8.lt_iff_toNat_lt]
          have h5 : x.toNat ≠ y.toNat := fun e => h (UInt8.toNat_inj.1 e)
          omega
        simp only [h7, h8, Bool.false_and, Bool.or_false, List.cons_beq_cons, Bool.not_false, Bool.and_true]
        by_cases hh : x < y
        · simp [hh, h9]
        · simp [hh, h9]

theorem dv_zeros (s : List UInt8) : dv 0 s = dv 0 (s.drop (s.takeWhile isZ).length) := by
  induction s with
  | nil => rfl
  | cons c s ih =>
    by_cases h : isZ c = true
    · rw [List.takeWhile_cons_of_pos h]
      have : c.toNat = 48 := by simpa [isZ] using h
      rw [dv_cons, this]
      simpa using ih
    · rw [List.takeWhile_cons_of_neg h]; rfl

theorem dropWhile_head (p : UInt8 → Bool) (s : List UInt8) (c : UInt8) (t : List UInt8) (h : s.drop (s.takeWhile p).length = c :: t) : p c = false := by
  induction s with
  | nil => simp at h
  | cons x s ih =>
    by_cases hp : p x = true
    · rw [List.takeWhile_cons_of_pos hp] at h
      exact ih (by simpa using h)
    · rw [List.takeWhile_cons_of_neg hp] at h
      simp at h
      rw [← h.1]; simpa using hp

theorem greatB_big (s : List UInt8) (h : ∀ c ∈ s, isD c = true) : greatB s = big s := by
  unfold greatB big
  have e : decVal s = dv 0 s := rfl
  have e0 : stop isZ s 0 = (s.takeWhile isZ).length := by simp [stop]
  rw [e, dv_zeros, e0]
  have hd : ∀ c ∈ s.drop (s.takeWhile isZ).length, isD c = true := fun c hc => h c (List.mem_of_mem_drop hc)
  generalize ht : s.drop (s.takeWhile isZ).length = t at *
  have hk : dv 0 kMost = 9223372036854775807 := by decide
  have hkl : kMost.length = 19 := rfl
  have hkd : ∀ c ∈ kMost, isD c = true := by decide
  by_cases h1 : t.length = 19
  · have := less_dv kMost t (by rw [h1]; rfl) hkd hd
    rw [gtB_less, this, hk]
    simp [h1]
  · by_cases h2 : 19 < t.length
    · cases t with
      | nil => simp at h2
      | cons c t =>
        have hz := dropWhile_head isZ s c t ht
        have hc := isD_le (hd c (by simp))
        have h49 : 49 ≤ c.toNat := by
          have : ¬ c.toNat = 48 := by simpa [isZ] using hz
          omega
        have hge := dv_ge c t h49
        have h3 : (10 : Nat) ^ 19 ≤ 10 ^ t.length := Nat.pow_le_pow_right (by decide) (by simp at h2; omega)
        have h4 : (10 : Nat) ^ 19 = 10000000000000000000 := by decide
        simp only [h2, decide_true, Bool.true_or]
        exact (decide_eq_true (by omega)).symm
    · have hlt := dv_lt t hd
      have h3 : (10 : Nat) ^ t.length ≤ 10 ^ 18 := Nat.pow_le_pow_right (by decide) (by omega)
      have h4 : (10 : Nat) ^ 18 = 1000000000000000000 := by decide
      simp only [h1, h2, decide_false, Bool.false_and, Bool.or_false]
      exact (decide_eq_false (by omega)).symm
end Go.Proofs.YtfkdailfcmnjlaaGreatDoor

namespace Go.Proofs.YtfkdailfcmnjlaaGreatDoor

/-- A part of a condition: its word, the places of the parts under it. -/
structure Pt where
  tok : Tok
  subs : List Nat

/-- What reading answers: is it well; the next word's place (or the place of the word at which it fails); the parts; the uppermost one. -/
structure Rd where
  ok : Bool
  i : Nat
  L : List Pt
  top : Nat

def noTok : Tok := ⟨0, [], 0⟩
def tokAt (ts : List Tok) (i : Nat) : Tok := ts.getD i noTok

/-- Is a word this keyword or sign? -/
def isW (t : Tok) (x : List UInt8) : Bool := (t.k == 107 || t.k == 115) && t.text == x

def wIf : List UInt8 := [105, 102]
def wThen : List UInt8 := [116, 104, 101, 110]
def wElse : List UInt8 := [101, 108, 115, 101]
def wNot : List UInt8 := [110, 111, 116]
def wTrue : List UInt8 := [116, 114, 117, 101]
def wFalse : List UInt8 := [102, 97, 108, 115, 101]
def wLet : List UInt8 := [108, 101, 116]
def wAllow : List UInt8 := [97, 108, 108, 111, 119]
def wDeny : List UInt8 := [100, 101, 110, 121]

def signsOf (n : Nat) : List (List UInt8) := if n = 0 then [[111, 114]] else if n = 1 then [[97, 110, 100]] else if n = 3 then [[61], [60], [60, 61]] else [[43], [45]]
/-- Does a word join two parts at a level? -/
def joins (n : Nat) (t : Tok) : Bool := decide (0 ≤ idx (signsOf n) t.text) && (t.k == 107 || t.k == 115)
/-- Can a word stand alone? -/
def alone (t : Tok) : Bool := t.k == 110 || t.k == 111 || (t.k == 107 && (decide (0 ≤ idx kMembers t.text) || decide (0 ≤ idx kFields t.text) || t.text == wTrue || t.text == wFalse))

def failAt (i : Nat) : Option Rd := some ⟨false, i, [], 0⟩
/-- One part more on top. -/
def put (r : Rd) (t : Tok) (subs : List Nat) : Rd := ⟨true, r.i, r.L ++ [⟨t, subs⟩], r.L.length⟩

/-- Go on, if it went well. -/
def andThen (o : Option Rd) (k : Rd → Option Rd) : Option Rd := match o with
  | none => none
  | some r => if r.ok then k r else some r

/-- The reader: the calls that it may make; which form (0 choice, 1 both, 2 part, 3 compared, 4 sum, 5 one, 6 condition; 10 and above: the rest of a chain, with what stands ahead of it on top); the words; the place; the parts; what stands ahead. -/
def P : Nat → Nat → List Tok → Nat → List Pt → Nat → Option Rd
  | 0, _, _, _, _, _ => none
  | f + 1, tag, ts, i, L, x =>
    if tag = 6 then
      if isW (tokAt ts i) wIf then
        andThen (P f 6 ts (i + 1) L 0) fun a =>
        if isW (tokAt ts a.i) wThen then
          andThen (P f 6 ts (a.i + 1) a.L 0) fun b =>
          if isW (tokAt ts b.i) wElse then
            andThen (P f 6 ts (b.i + 1) b.L 0) fun c => some (put c (tokAt ts i) [a.top, b.top, c.top])
          else failAt b.i
        else failAt a.i
      else P f 0 ts i L 0
    else if tag = 5 then
      if isW (tokAt ts i) [40] then
        andThen (P f 6 ts (i + 1) L 0) fun a => if isW (tokAt ts a.i) [41] then some { a with i := a.i + 1 } else failAt a.i
      else if alone (tokAt ts i) then some ⟨true, i + 1, L ++ [⟨tokAt ts i, []⟩], L.length⟩
      else failAt i
    else if tag = 2 then
      if isW (tokAt ts i) wNot then andThen (P f 2 ts (i + 1) L 0) fun a => some (put a (tokAt ts i) [a.top])
      else P f 3 ts i L 0
    else if tag < 10 then andThen (P f (tag + 1) ts i L 0) fun a => P f (10 + tag) ts a.i a.L a.top
    else
      if joins (tag - 10) (tokAt ts i) then
        andThen (P f (tag - 9) ts (i + 1) L 0) fun b =>
        if tag = 13 then some (put b (tokAt ts i) [x, b.top]) else P f tag ts b.i (b.L ++ [⟨tokAt ts i, [x, b.top]⟩]) b.L.length
      else some ⟨true, i, L, x⟩

/-- What a word counts as a number. -/
def numOf (t : Tok) : Int := if t.k = 110 then decVal t.text else 0

/-- A number's word is digits, and not too great. -/
def TokOK (t : Tok) : Prop := t.text.length ≤ 1000 ∧ (t.k = 110 → (∀ c ∈ t.text, isD c = true) ∧ decVal t.text ≤ 9223372036854775807)

/-- What stands behind a call and a word that must follow it. -/
def Nx (f : Nat) (ts : List Tok) (a b : Rd) (x : List UInt8) : Prop :=
  if a.ok = true ∧ isW (tokAt ts a.i) x = true then P f 6 ts (a.i + 1) a.L 0 = some b else b.ok = false ∧ b.i = a.i

theorem if_split {f : Nat} {ts : List Tok} {i x : Nat} {L : List Pt} {r : Rd} (h : P (f + 1) 6 ts i L x = some r) (hw : isW (tokAt ts i) wIf = true) :
    ∃ a b c : Rd, P f 6 ts (i + 1) L 0 = some a ∧ Nx f ts a b wThen ∧ Nx f ts b c wElse ∧ r.ok = c.ok ∧ r.i = c.i ∧ (c.ok = true → a.ok = true ∧ b.ok = true ∧ r = put c (tokAt ts i) [a.top, b.top, c.top]) := by
  rw [P, if_pos rfl, if_pos hw] at h
  cases ha : P f 6 ts (i + 1) L 0 with
  | none => rw [ha] at h; simp [andThen] at h
  | some a =>
    rw [ha] at h
    simp only [andThen] at h
    by_cases hok : a.ok = true
    · rw [if_pos hok] at h
      by_cases ht : isW (tokAt ts a.i) wThen = true
      · rw [if_pos ht] at h
        cases hb : P f 6 ts (a.i + 1) a.L 0 with
        | none => rw [hb] at h; simp at h
        | some b =>
          rw [hb] at h
          simp only at h
          by_cases hbk : b.ok = true
          · rw [if_pos hbk] at h
            by_cases he : isW (tokAt ts b.i) wElse = true
            · rw [if_pos he] at h
              cases hc : P f 6 ts (b.i + 1) b.L 0 with
              | none => rw [hc] at h; simp at h
              | some c =>
                rw [hc] at h
                simp only at h
                refine ⟨a, b, c, rfl, ?_, ?_, ?_⟩
                · unfold Nx; rw [if_pos ⟨hok, ht⟩]; exact hb
                · unfold Nx; rw [if_pos ⟨hbk, he⟩]; exact hc
                · by_cases hck : c.ok = true
                  · rw [if_pos hck] at h; simp at h; subst h
                    exact ⟨by simp [put, hck], rfl, fun _ => ⟨hok, hbk, rfl⟩⟩
                  · rw [if_neg hck] at h; simp at h; subst h
                    exact ⟨rfl, rfl, fun e => absurd e hck⟩
            · rw [if_neg he] at h
              simp [failAt] at h; subst h
              refine ⟨a, b, ⟨false, b.i, [], 0⟩, rfl, ?_, ?_, rfl, rfl, fun e => by simp at e⟩
              · unfold Nx; rw [if_pos ⟨hok, ht⟩]; exact hb
              · unfold Nx; rw [if_neg (fun e => he e.2)]; exact ⟨rfl, rfl⟩
          · rw [if_neg hbk] at h; simp at h; subst h
            refine ⟨a, b, ⟨false, b.i, [], 0⟩, rfl, ?_, ?_, by simpa using hbk, rfl, fun e => by simp at e⟩
            · unfold Nx; rw [if_pos ⟨hok, ht⟩]; exact hb
            · unfold Nx; rw [if_neg (fun e => hbk e.1)]; exact ⟨rfl, rfl⟩
      · rw [if_neg ht] at h
        simp [failAt] at h; subst h
        refine ⟨a, ⟨false, a.i, [], 0⟩, ⟨false, a.i, [], 0⟩, rfl, ?_, ?_, rfl, rfl, fun e => by simp at e⟩
        · unfold Nx; rw [if_neg (fun e => ht e.2)]; exact ⟨rfl, rfl⟩
        · unfold Nx; rw [if_neg (fun e => by simp at e)]; exact ⟨rfl, rfl⟩
    · rw [if_neg hok] at h; simp at h; subst h
      refine ⟨a, ⟨false, a.i, [], 0⟩, ⟨false, a.i, [], 0⟩, rfl, ?_, ?_, by simpa using hok, rfl, fun e => by simp at e⟩
      · unfold Nx; rw [if_neg (fun e => hok e.1)]; exact ⟨rfl, rfl⟩
      · unfold Nx; rw [if_neg (fun e => by simp at e)]; exact ⟨rfl, rfl⟩
theorem one_open {f : Nat} {ts : List Tok} {i x : Nat} {L : List Pt} {r : Rd} (h : P (f + 1) 5 ts i L x = some r) (hw : isW (tokAt ts i) [40] = true) :
    ∃ a : Rd, P f 6 ts (i + 1) L 0 = some a ∧ ((a.ok = true ∧ isW (tokAt ts a.i) [41] = true ∧ r = { a with i := a.i + 1 }) ∨ (¬ (a.ok = true ∧ isW (tokAt ts a.i) [41] = true) ∧ r.ok = false ∧ r.i = a.i)) := by
  rw [P, if_neg (by decide), if_pos rfl, if_pos hw] at h
  cases ha : P f 6 ts (i + 1) L 0 with
  | none => rw [ha] at h; simp [andThen] at h
  | some a =>
    rw [ha] at h
    simp only [andThen] at h
    refine ⟨a, rfl, ?_⟩
    by_cases hok : a.ok = true
    · rw [if_pos hok] at h
      by_cases ht : isW (tokAt ts a.i) [41] = true
      · rw [if_pos ht] at h; simp at h; exact .inl ⟨hok, ht, h.symm⟩
      · rw [if_neg ht] at h; simp [failAt] at h; subst h; exact .inr ⟨fun e => ht e.2, rfl, rfl⟩
    · rw [if_neg hok] at h; simp at h; subst h; exact .inr ⟨fun e => hok e.1, by simpa using hok, rfl⟩
theorem one_alone {f : Nat} {ts : List Tok} {i x : Nat} {L : List Pt} {r : Rd} (h : P (f + 1) 5 ts i L x = some r) (hw : ¬ isW (tokAt ts i) [40] = true) :
    (alone (tokAt ts i) = true ∧ r = ⟨true, i + 1, L ++ [⟨tokAt ts i, []⟩], L.length⟩) ∨ (alone (tokAt ts i) = false ∧ r = ⟨false, i, [], 0⟩) := by
  rw [P, if_neg (by decide), if_pos rfl, if_neg hw] at h
  by_cases ha : alone (tokAt ts i) = true
  · rw [if_pos ha] at h; simp at h; exact .inl ⟨ha, h.symm⟩
  · rw [if_neg ha] at h; simp [failAt] at h; exact .inr ⟨by simpa using ha, h.symm⟩
theorem not_yes {f : Nat} {ts : List Tok} {i x : Nat} {L : List Pt} {r : Rd} (h : P (f + 1) 2 ts i L x = some r) (hw : isW (tokAt ts i) wNot = true) :
    ∃ a : Rd, P f 2 ts (i + 1) L 0 = some a ∧ r.ok = a.ok ∧ r.i = a.i ∧ (a.ok = true → r = put a (tokAt ts i) [a.top]) := by
  rw [P, if_neg (by decide), if_neg (by decide), if_pos rfl, if_pos hw] at h
  cases ha : P f 2 ts (i + 1) L 0 with
  | none => rw [ha] at h; simp [andThen] at h
  | some a =>
    rw [ha] at h
    simp only [andThen] at h
    refine ⟨a, rfl, ?_⟩
    by_cases hok : a.ok = true
    · rw [if_pos hok] at h; simp at h; subst h; exact ⟨by simp [put, hok], rfl, fun _ => rfl⟩
    · rw [if_neg hok] at h; simp at h; subst h; exact ⟨rfl, rfl, fun e => absurd e hok⟩
theorem not_no {f : Nat} {ts : List Tok} {i x : Nat} {L : List Pt} {r : Rd} (h : P (f + 1) 2 ts i L x = some r) (hw : ¬ isW (tokAt ts i) wNot = true) : P f 3 ts i L 0 = some r := by
  rw [P, if_neg (by decide), if_neg (by decide), if_pos rfl, if_neg hw] at h; exact h
/-- The levels that are chains. -/
def isChain (n : Nat) : Prop := n = 0 ∨ n = 1 ∨ n = 3 ∨ n = 4
theorem chain_split {f n : Nat} {ts : List Tok} {i x : Nat} {L : List Pt} {r : Rd} (hn : isChain n) (h : P (f + 1) n ts i L x = some r) :
    ∃ a : Rd, P f (n + 1) ts i L 0 = some a ∧ ((a.ok = true ∧ P f (10 + n) ts a.i a.L a.top = some r) ∨ (a.ok = false ∧ r = a)) := by
  unfold isChain at hn
  rw [P, if_neg (by omega), if_neg (by omega), if_neg (by omega), if_pos (by omega)] at h
  cases ha : P f (n + 1) ts i L 0 with
  | none => rw [ha] at h; simp [andThen] at h
  | some a =>
    rw [ha] at h
    simp only [andThen] at h
    refine ⟨a, rfl, ?_⟩
    by_cases hok : a.ok = true
    · rw [if_pos hok] at h; exact .inl ⟨hok, h⟩
    · rw [if_neg hok] at h; simp at h; exact .inr ⟨by simpa using hok, h.symm⟩
theorem loop_no {g n : Nat} {ts : List Tok} {i x : Nat} {L : List Pt} {r : Rd} (hn : isChain n) (h : P (g + 1) (10 + n) ts i L x = some r) (hj : joins n (tokAt ts i) = false) : r = ⟨true, i, L, x⟩ := by
  unfold isChain at hn
  rw [P, if_neg (by omega), if_neg (by omega), if_neg (by omega), if_neg (by omega), show 10 + n - 10 = n from by omega, if_neg (by simp [hj])] at h
  simp at h; exact h.symm
theorem loop_yes {g n : Nat} {ts : List Tok} {i x : Nat} {L : List Pt} {r : Rd} (hn : isChain n) (h : P (g + 1) (10 + n) ts i L x = some r) (hj : joins n (tokAt ts i) = true) :
    ∃ b : Rd, P g (n + 1) ts (i + 1) L 0 = some b ∧ ((b.ok = false ∧ r = b) ∨ (b.ok = true ∧ ((n = 3 ∧ r = put b (tokAt ts i) [x, b.top]) ∨ (n ≠ 3 ∧ P g (10 + n) ts b.i (b.L ++ [⟨tokAt ts i, [x, b.top]⟩]) b.L.length = some r)))) := by
  unfold isChain at hn
  rw [P, if_neg (by omega), if_neg (by omega), if_neg (by omega), if_neg (by omega), show 10 + n - 10 = n from by omega, show 10 + n - 9 = n + 1 from by omega, if_pos hj] at h
  cases hb : P g (n + 1) ts (i + 1) L 0 with
  | none => rw [hb] at h; simp [andThen] at h
  | some b =>
    rw [hb] at h
    simp only [andThen] at h
    refine ⟨b, rfl, ?_⟩
    by_cases hok : b.ok = true
    · rw [if_pos hok] at h
      by_cases h3 : n = 3
      · rw [if_pos (by omega)] at h; simp at h; exact .inr ⟨hok, .inl ⟨h3, h.symm⟩⟩
      · rw [if_neg (by omega)] at h; exact .inr ⟨hok, .inr ⟨h3, h⟩⟩
    · rw [if_neg hok] at h; simp at h; exact .inl ⟨by simpa using hok, h.symm⟩
theorem if_not {f : Nat} {ts : List Tok} {i x : Nat} {L : List Pt} {r : Rd} (h : P (f + 1) 6 ts i L x = some r) (hw : ¬ isW (tokAt ts i) wIf = true) : P f 0 ts i L 0 = some r := by
  rw [P, if_pos rfl, if_neg hw] at h; exact h
end Go.Proofs.YtfkdailfcmnjlaaGreatDoor

namespace Go.Proofs.YtfkdailfcmnjlaaGreatDoor

/-- An item: a let's name (nothing: a rule), does it allow, its uppermost part, its place, its name's, how many parts there are up to its end. -/
structure Itm where
  name : List UInt8
  allow : Bool
  top : Nat
  pl : Nat
  named : Nat
  parts : Nat

structure ItR where
  ok : Bool
  i : Nat
  L : List Pt
  it : Itm

def noItm : Itm := ⟨[], false, 0, 0, 0, 0⟩
def itFail (i : Nat) : Option ItR := some ⟨false, i, [], noItm⟩

/-- The condition of an item, and its end. -/
def itemTail (f : Nat) (ts : List Tok) (i : Nat) (L : List Pt) (x : Itm) : Option ItR := match P f 6 ts i L 0 with
  | none => none
  | some a => if a.ok then (if isW (tokAt ts a.i) [59] then some ⟨true, a.i + 1, a.L, { x with top := a.top, parts := a.L.length }⟩ else itFail a.i) else itFail a.i

def itemP (f : Nat) (ts : List Tok) (i : Nat) (L : List Pt) : Option ItR :=
  if isW (tokAt ts i) wLet then
    if (tokAt ts (i + 1)).k = 111 then
      if isW (tokAt ts (i + 2)) [61] then itemTail f ts (i + 3) L ⟨(tokAt ts (i + 1)).text, false, 0, (tokAt ts i).pl, (tokAt ts (i + 1)).pl, 0⟩ else itFail (i + 2)
    else itFail (i + 1)
  else if isW (tokAt ts i) wAllow || isW (tokAt ts i) wDeny then
    if isW (tokAt ts (i + 1)) wIf then itemTail f ts (i + 2) L ⟨[], (tokAt ts i).text == wAllow, 0, (tokAt ts i).pl, 0, 0⟩ else itFail (i + 1)
  else itFail i
end Go.Proofs.YtfkdailfcmnjlaaGreatDoor

namespace Go.Proofs.YtfkdailfcmnjlaaGreatDoor

def noPt : Pt := ⟨noTok, []⟩

/-- The greatest of what a list's members have. -/
def foldMax (F : Nat → Nat) (l : List Nat) : Nat := l.foldl (fun m j => max m (F j)) 0
theorem foldMax_take (F : Nat → Nat) (l : List Nat) (k : Nat) (hk : k < l.length) : foldMax F (l.take (k + 1)) = max (foldMax F (l.take k)) (F l[k]) := by
  unfold foldMax
  rw [List.take_succ_eq_append_getElem hk, List.foldl_append]; rfl
theorem foldMax_le (F : Nat → Nat) (M : Nat) (h : ∀ j, F j ≤ M) (l : List Nat) : foldMax F l ≤ M := by
  have : ∀ (l : List Nat) (m : Nat), m ≤ M → l.foldl (fun m j => max m (F j)) m ≤ M := by
    intro l
    induction l with
    | nil => intro m hm; simpa using hm
    | cons x l ihl => intro m hm; rw [List.foldl_cons]; exact ihl _ (by have := h x; omega)
  exact this l 0 (Nat.zero_le _)

/-- The depth of a part; the first number bounds the calls. -/
def dep : Nat → List Pt → Nat → Nat
  | 0, _, _ => 1
  | f + 1, L, i => foldMax (dep f L) (L.getD i noPt).subs + 1

/-- The parts under a part stand ahead of it. -/
def Ahead (L : List Pt) : Prop := ∀ i, i < L.length → (L.getD i noPt).subs.length ≤ 3 ∧ ∀ j ∈ (L.getD i noPt).subs, j < i

theorem dep_bound (f : Nat) (L : List Pt) (i : Nat) : dep f L i ≤ f + 1 := by
  induction f generalizing i with
  | zero => simp [dep]
  | succ f ih =>
    rw [dep]
    have := foldMax_le (dep f L) (f + 1) ih (L.getD i noPt).subs
    omega

/-- The let that gave a name, among the first items; or -1. -/
def letIx : List Itm → List UInt8 → Nat → Int
  | [], _, _ => -1
  | _ :: _, _, 0 => -1
  | x :: r, s, k + 1 => if x.name == s then 0 else (if letIx r s k < 0 then -1 else letIx r s k + 1)

theorem letIx_ge (l : List Itm) (s : List UInt8) (k : Nat) : -1 ≤ letIx l s k := by
  induction l generalizing k with
  | nil => simp [letIx]
  | cons x r ih =>
    cases k with
    | zero => simp [letIx]
    | succ k => unfold letIx; have := ih k; split; omega; split <;> omega
theorem letIx_step (l : List Itm) (s : List UInt8) (k m : Nat) (hk : k < l.length) (hm : 0 < m) : letIx (l.drop k) s m = if l[k].name == s then 0 else (if letIx (l.drop (k + 1)) s (m - 1) < 0 then -1 else letIx (l.drop (k + 1)) s (m - 1) + 1) := by
  obtain ⟨m, rfl⟩ : ∃ m', m = m' + 1 := ⟨m - 1, by omega⟩
  rw [List.drop_eq_getElem_cons hk, letIx]; rfl
theorem letIx_zero (l : List Itm) (s : List UInt8) : letIx l s 0 = -1 := by cases l <;> rfl
theorem letIx_lt (l : List Itm) (s : List UInt8) (k : Nat) : letIx l s k < k ∧ letIx l s k < l.length := by
  induction l generalizing k with
  | nil => simp [letIx]; omega
  | cons x r ih =>
    cases k with
    | zero => simp [letIx]; omega
    | succ k => unfold letIx; have := ih k; simp only [List.length_cons]; split; omega; split <;> omega

/-- The place of the first item that is too much. -/
def manyAt (L : List Pt) : List Itm → Nat → Nat → Option Nat
  | [], _, _ => none
  | x :: r, lets, i =>
    if 10 < lets + (if x.name == [] then 0 else 1) ∨ 20 < i + 1 - (lets + (if x.name == [] then 0 else 1)) ∨ 200 < x.parts ∨ 20 < dep (x.top + 1) L x.top then some x.pl
    else manyAt L r (lets + (if x.name == [] then 0 else 1)) (i + 1)

/-- The lesser of a place and what there was. -/
def better (pl : Nat) : Option Nat → Option Nat
  | none => some pl
  | some p => if pl < p then some pl else some p
/-- One word more: is it an own name that nobody gave, and the first so far? -/
def wrongStep (xs : List Itm) (i : Nat) (t : Tok) (o : Option Nat) : Option Nat :=
  if t.k = 111 ∧ letIx xs t.text i < 0 then better t.pl o else o
/-- The first own name among some parts that nobody gave. -/
def wrongAt (xs : List Itm) (L : List Pt) (i : Nat) : Nat → Nat → Option Nat → Option Nat
  | 0, _, o => o
  | c + 1, k, o => wrongAt xs L i c (k + 1) (wrongStep xs i (L.getD k noPt).tok o)
/-- The place of the first own name that is wrong. -/
def namesAt (xs : List Itm) (L : List Pt) : List Itm → Nat → Nat → Option Nat
  | [], _, _ => none
  | x :: r, fr, i => if x.name ≠ [] ∧ 0 ≤ letIx xs x.name i then some x.named
    else (wrongAt xs L i (x.parts - fr) fr none).or (namesAt xs L r x.parts (i + 1))

/-- The type of a sign or keyword over parts of these types (110 a number, 109 a member, 116 a truth, 0 none). -/
def tySign (x s : List UInt8) : Nat :=
  if x = [43] ∨ x = [45] then (if s = [110, 110] then 110 else 0)
  else if x = [60] ∨ x = [60, 61] then (if s = [110, 110] then 116 else 0)
  else if x = [61] then (if (s.getD 0 0).toNat = (s.getD 1 0).toNat then 116 else 0)
  else if x = [111, 114] ∨ x = [97, 110, 100] then (if s = [116, 116] then 116 else 0)
  else if x = [110, 111, 116] then (if s = [116] then 116 else 0)
  else if x = [105, 102] then (if (s.getD 0 0).toNat = 116 ∧ (s.getD 1 0).toNat = (s.getD 2 0).toNat then (s.getD 1 0).toNat else 0)
  else 0

/-- The type of a part by its word and the types under it. -/
def tyCase (xs : List Itm) (its : List UInt8) (t : Tok) (s : List UInt8) : Nat :=
  if t.k = 110 then 110
  else if t.k = 111 then (its.getD (letIx xs t.text its.length).toNat 0).toNat
  else if 0 ≤ idx kFields t.text then (([110, 110, 110, 110, 109, 109, 109, 116, 116] : List UInt8).getD (idx kFields t.text).toNat 0).toNat
  else if 0 ≤ idx kMembers t.text then 109
  else if t.text = wTrue ∨ t.text = wFalse then 116
  else tySign t.text s
theorem tySign_lt (x s : List UInt8) : tySign x s < 256 := by
  have h := (s.getD 1 0).toNat_lt
  unfold tySign
  repeat' split
  all_goals omega
theorem tyCase_lt (xs : List Itm) (its : List UInt8) (t : Tok) (s : List UInt8) : tyCase xs its t s < 256 := by
  have h := tySign_lt t.text s
  unfold tyCase
  repeat' split
  all_goals first
    | omega
    | exact UInt8.toNat_lt _

/-- The type of a part, where the items ahead have these types. -/
def tyOf (xs : List Itm) (its : List UInt8) (L : List Pt) : Nat → Nat → UInt8
  | 0, _ => 0
  | f + 1, k => if ((L.getD k noPt).subs.map (tyOf xs its L f)).contains 0 then 0 else UInt8.ofNat (tyCase xs its (L.getD k noPt).tok ((L.getD k noPt).subs.map (tyOf xs its L f)))
/-- The place of the first item whose condition has not the types there must be. -/
def typesAt (xs : List Itm) (L : List Pt) : List Itm → List UInt8 → Option Nat
  | [], _ => none
  | x :: r, its =>
    if (tyOf xs its L (x.top + 1) x.top).toNat = 0 ∨ (x.name = [] ∧ (tyOf xs its L (x.top + 1) x.top).toNat ≠ 116) then some x.pl
    else typesAt xs L r (its ++ [tyOf xs its L (x.top + 1) x.top])
end Go.Proofs.YtfkdailfcmnjlaaGreatDoor

namespace Go.Proofs.YtfkdailfcmnjlaaGreatDoor

/-- What reading all items answers. -/
structure AllR where
  ok : Bool
  i : Nat
  L : List Pt
  xs : List Itm

def parseAll (F : Nat) (ts : List Tok) : Nat → Nat → List Pt → List Itm → Option AllR
  | 0, _, _, _ => none
  | g + 1, i, L, xs =>
    if (tokAt ts i).k = 101 then some ⟨true, i, L, xs⟩
    else match itemP F ts i L with
      | none => none
      | some r => if r.ok then parseAll F ts g r.i r.L (xs ++ [r.it]) else some ⟨false, r.i, [], []⟩

theorem parse_end {F g i : Nat} {ts : List Tok} {L : List Pt} {xs : List Itm} {R : AllR} (h : parseAll F ts g i L xs = some R) (hk : (tokAt ts i).k = 101) : R = ⟨true, i, L, xs⟩ := by
  cases g with
  | zero => rw [parseAll] at h; simp at h
  | succ g => rw [parseAll, if_pos hk] at h; simp at h; exact h.symm
theorem parse_step {F g i : Nat} {ts : List Tok} {L : List Pt} {xs : List Itm} {R : AllR} (h : parseAll F ts g i L xs = some R) (hk : ¬ (tokAt ts i).k = 101) :
    ∃ r g', itemP F ts i L = some r ∧ ((r.ok = true ∧ parseAll F ts g' r.i r.L (xs ++ [r.it]) = some R) ∨ (r.ok = false ∧ R = ⟨false, r.i, [], []⟩)) := by
  cases g with
  | zero => rw [parseAll] at h; simp at h
  | succ g =>
    rw [parseAll, if_neg hk] at h
    cases hr : itemP F ts i L with
    | none => rw [hr] at h; simp at h
    | some r =>
      rw [hr] at h
      simp only at h
      refine ⟨r, g, rfl, ?_⟩
      by_cases hok : r.ok = true
      · rw [if_pos hok] at h; exact .inl ⟨hok, h⟩
      · rw [if_neg hok] at h; simp at h; exact .inr ⟨by simpa using hok, h.symm⟩

/-- The error and the place of what was read. -/
def verdictOf (ts : List Tok) (R : AllR) : Nat × Nat :=
  if R.ok = false then (3, (tokAt ts R.i).pl)
  else match manyAt R.L R.xs 0 0 with
    | some p => (4, p)
    | none => match namesAt R.xs R.L R.xs 0 0 with
      | some p => (5, p)
      | none => match typesAt R.xs R.L R.xs [] with
        | some p => (6, p)
        | none => (0, 0)
end Go.Proofs.YtfkdailfcmnjlaaGreatDoor

namespace Go.Proofs.YtfkdailfcmnjlaaGreatDoor

/-- How many parts a word asks for. -/
def Arity (t : Tok) (n : Nat) : Prop := (t.k ≠ 110 → t.k ≠ 111 → t.text = [61] → 2 ≤ n) ∧ (t.k ≠ 110 → t.k ≠ 111 → t.text = [105, 102] → 3 ≤ n)

/-- From a place on the parts ask for parts from that place on, ahead of them. -/
def Inv (b : Nat) (L : List Pt) : Prop := ∀ k, b ≤ k → k < L.length → (L.getD k noPt).subs.length ≤ 3 ∧ (∀ j ∈ (L.getD k noPt).subs, b ≤ j ∧ j < k) ∧ Arity (L.getD k noPt).tok (L.getD k noPt).subs.length

theorem getD_left {L M : List Pt} {k : Nat} (h : k < L.length) : (L ++ M).getD k noPt = L.getD k noPt := by
  simp [List.getD_eq_getElem?_getD, List.getElem?_append_left h]
theorem getD_last (L : List Pt) (p : Pt) : (L ++ [p]).getD L.length noPt = p := by simp [List.getD_eq_getElem?_getD]

theorem Inv.snoc {b : Nat} {L : List Pt} (h : Inv b L) (p : Pt) (h3 : p.subs.length ≤ 3) (hs : ∀ j ∈ p.subs, b ≤ j ∧ j < L.length) (ha : Arity p.tok p.subs.length) : Inv b (L ++ [p]) := by
  intro k hb hk
  by_cases e : k < L.length
  · rw [getD_left e]; exact h k hb e
  · have : k = L.length := by simp at hk; omega
    subst this
    rw [getD_last]; exact ⟨h3, hs, ha⟩
theorem Inv.mono {b b' : Nat} {L : List Pt} (h : Inv b L) (hb : b ≤ b') (hn : L.length ≤ b') : Inv b' L := by
  intro k h1 h2; omega

theorem arity_w {t : Tok} {x : List UInt8} (h : isW t x = true) (n : Nat) (h2 : x = [61] → 2 ≤ n) (h3 : x = [105, 102] → 3 ≤ n) : Arity t n := by
  unfold isW at h; simp at h
  exact ⟨fun _ _ e => h2 (by rw [← h.2]; exact e), fun _ _ e => h3 (by rw [← h.2]; exact e)⟩
theorem arity_join {n : Nat} {t : Tok} (h : joins n t = true) : Arity t 2 := by
  refine ⟨fun _ _ _ => Nat.le_refl _, fun _ _ e => ?_⟩
  unfold joins at h; rw [e] at h
  unfold signsOf at h
  exfalso
  revert h
  by_cases h0 : n = 0
  · rw [if_pos h0]; simp [idx]
  · rw [if_neg h0]
    by_cases h1 : n = 1
    · rw [if_pos h1]; simp [idx]
    · rw [if_neg h1]
      by_cases h3 : n = 3
      · rw [if_pos h3]; simp [idx]
      · rw [if_neg h3]; simp [idx]
theorem arity_alone {t : Tok} (h : alone t = true) : Arity t 0 := by
  unfold alone at h
  refine ⟨fun h1 h2 e => ?_, fun h1 h2 e => ?_⟩
  · rw [e] at h
    have k1 : idx kMembers [61] = -1 := by decide
    have k2 : idx kFields [61] = -1 := by decide
    rw [k1, k2] at h
    simp [h1, h2, wTrue, wFalse] at h
  · rw [e] at h
    have k1 : idx kMembers [105, 102] = -1 := by decide
    have k2 : idx kFields [105, 102] = -1 := by decide
    rw [k1, k2] at h
    simp [h1, h2, wTrue, wFalse] at h

/-- What a reading that went well keeps. -/
structure Kept (b : Nat) (tag i : Nat) (L : List Pt) (r : Rd) : Prop where
  fwd : i ≤ r.i
  fwd1 : tag < 10 → i < r.i
  more : ∃ new, r.L = L ++ new
  inv : Inv b r.L
  top : b ≤ r.top ∧ r.top < r.L.length

theorem P_kept (f : Nat) : ∀ (tag : Nat) (ts : List Tok) (i : Nat) (L : List Pt) (x b : Nat) (r : Rd), P f tag ts i L x = some r → r.ok = true → b ≤ L.length → Inv b L → (10 ≤ tag → b ≤ x ∧ x < L.length) → (tag ≤ 6 ∨ tag = 10 ∨ tag = 11 ∨ tag = 13 ∨ tag = 14) → Kept b tag i L r := by
  induction f with
  | zero => intro tag ts i L x b r h; rw [P] at h; simp at h
  | succ f ih =>
    intro tag ts i L x b r h ok hb hI hx ht
    by_cases h6 : tag = 6
    · subst h6
      by_cases hw : isW (tokAt ts i) wIf = true
      · obtain ⟨ra, rb, rc, hPa, hNb, hNc, hrc, hri, hrp⟩ := if_split h hw
        rw [hrc] at ok
        obtain ⟨oka, okb, rfl⟩ := hrp ok
        have ka := ih 6 ts (i + 1) L 0 b ra hPa oka hb hI (by omega) (by omega)
        unfold Nx at hNb hNc
        have hwb : isW (tokAt ts ra.i) wThen = true := by
          cases e : isW (tokAt ts ra.i) wThen with
          | true => rfl
          | false => rw [if_neg (by simp [e])] at hNb; rw [hNb.1] at okb; simp at okb
        have hwc : isW (tokAt ts rb.i) wElse = true := by
          cases e : isW (tokAt ts rb.i) wElse with
          | true => rfl
          | false => rw [if_neg (by simp [e])] at hNc; rw [hNc.1] at ok; simp at ok
        rw [if_pos ⟨oka, hwb⟩] at hNb
        rw [if_pos ⟨okb, hwc⟩] at hNc
        obtain ⟨na, ea⟩ := ka.more
        have kb := ih 6 ts (ra.i + 1) ra.L 0 b rb hNb okb (by rw [ea]; simp; omega) ka.inv (by omega) (by omega)
        obtain ⟨nb, eb⟩ := kb.more
        have kc := ih 6 ts (rb.i + 1) rb.L 0 b rc hNc ok (by rw [eb, ea]; simp; omega) kb.inv (by omega) (by omega)
        obtain ⟨nc, ec⟩ := kc.more
        have la : ra.L.length ≤ rb.L.length := by rw [eb]; simp
        have lb : rb.L.length ≤ rc.L.length := by rw [ec]; simp
        have t1 := ka.top; have t2 := kb.top; have t3 := kc.top
        have f1 := ka.fwd; have f2 := kb.fwd; have f3 := kc.fwd
        refine ⟨by simp [put]; omega, fun _ => by simp [put]; omega, ⟨na ++ (nb ++ (nc ++ [⟨tokAt ts i, [ra.top, rb.top, rc.top]⟩])), by simp [put, ec, eb, ea]⟩, ?_, by simp [put]; omega⟩
        exact kc.inv.snoc _ (by simp) (by intro j hj; simp at hj; rcases hj with rfl | rfl | rfl <;> omega) (arity_w hw 3 (by simp [wIf]) (by simp))
      · have k := ih 0 ts i L 0 b r (if_not h hw) ok hb hI (by omega) (by omega)
        exact ⟨k.fwd, fun _ => k.fwd1 (by omega), k.more, k.inv, k.top⟩
    · by_cases h5 : tag = 5
      · subst h5
        by_cases hw : isW (tokAt ts i) [40] = true
        · obtain ⟨ra, hPa, hr⟩ := one_open h hw
          rcases hr with ⟨oka, hwa, rfl⟩ | ⟨_, hr, _⟩
          · have ka := ih 6 ts (i + 1) L 0 b ra hPa oka hb hI (by omega) (by omega)
            have f1 := ka.fwd
            exact ⟨by simp; omega, fun _ => by simp; omega, ka.more, ka.inv, ka.top⟩
          · rw [hr] at ok; simp at ok
        · rcases one_alone h hw with ⟨ha, rfl⟩ | ⟨_, rfl⟩
          · exact ⟨by simp, fun _ => by simp, ⟨_, rfl⟩, hI.snoc _ (by simp) (by simp) (by simpa using arity_alone ha), by simp; omega⟩
          · simp at ok
      · by_cases h2 : tag = 2
        · subst h2
          by_cases hw : isW (tokAt ts i) wNot = true
          · obtain ⟨ra, hPa, hra, hri, hrp⟩ := not_yes h hw
            rw [hra] at ok
            have hrp := hrp ok
            subst hrp
            have ka := ih 2 ts (i + 1) L 0 b ra hPa ok hb hI (by omega) (by omega)
            obtain ⟨na, ea⟩ := ka.more
            have t1 := ka.top; have f1 := ka.fwd
            refine ⟨by simp [put]; omega, fun _ => by simp [put]; omega, ⟨na ++ [⟨tokAt ts i, [ra.top]⟩], by simp [put, ea]⟩, ?_, by simp [put]; omega⟩
            exact ka.inv.snoc _ (by simp) (by intro j hj; simp at hj; omega) (arity_w hw 1 (by simp [wNot]) (by simp [wNot]))
          · have k := ih 3 ts i L 0 b r (not_no h hw) ok hb hI (by omega) (by omega)
            exact ⟨k.fwd, fun _ => k.fwd1 (by omega), k.more, k.inv, k.top⟩
        · by_cases h10 : tag < 10
          · rw [P, if_neg h6, if_neg h5, if_neg h2, if_pos h10] at h
            cases ha : P f (tag + 1) ts i L 0 with
            | none => rw [ha] at h; simp [andThen] at h
            | some a =>
              rw [ha] at h
              simp only [andThen] at h
              by_cases oka : a.ok = true
              · rw [if_pos oka] at h
                · have ka := ih (tag + 1) ts i L 0 b a ha oka hb hI (by omega) (by omega)
                  obtain ⟨na, ea⟩ := ka.more
                  have kb := ih (10 + tag) ts a.i a.L a.top b r h ok (by rw [ea]; simp; omega) ka.inv (fun _ => ka.top) (by omega)
                  obtain ⟨nb, eb⟩ := kb.more
                  have f1 := ka.fwd1 (by omega); have f2 := kb.fwd
                  exact ⟨by omega, fun _ => by omega, ⟨na ++ nb, by rw [eb, ea, List.append_assoc]⟩, kb.inv, kb.top⟩
              · rw [if_neg oka] at h; simp at h; subst h; exact absurd ok oka
          · rw [P, if_neg h6, if_neg h5, if_neg h2, if_neg h10] at h
            have hx' := hx (by omega)
            by_cases hj : joins (tag - 10) (tokAt ts i) = true
            · rw [if_pos hj] at h
              cases hb' : P f (tag - 9) ts (i + 1) L 0 with
              | none => rw [hb'] at h; simp [andThen] at h
              | some c =>
                rw [hb'] at h
                simp only [andThen] at h
                by_cases okc : c.ok = true
                · rw [if_pos okc] at h
                  have kc := ih (tag - 9) ts (i + 1) L 0 b c hb' okc hb hI (by omega) (by omega)
                  obtain ⟨nc, ec⟩ := kc.more
                  have lc : L.length ≤ c.L.length := by rw [ec]; simp
                  have t1 := kc.top; have f1 := kc.fwd
                  have hI2 : Inv b (c.L ++ [⟨tokAt ts i, [x, c.top]⟩]) := kc.inv.snoc _ (by simp) (by intro j hj'; simp at hj'; rcases hj' with rfl | rfl <;> omega) (by simpa using arity_join hj)
                  by_cases h13 : tag = 13
                  · rw [if_pos h13] at h; simp at h; subst h
                    exact ⟨by simp [put]; omega, fun e => by omega, ⟨nc ++ [⟨tokAt ts i, [x, c.top]⟩], by simp [put, ec]⟩, hI2, by simp [put]; omega⟩
                  · rw [if_neg h13] at h
                    have kd := ih tag ts c.i (c.L ++ [⟨tokAt ts i, [x, c.top]⟩]) c.L.length b r h ok (by simp; omega) hI2 (fun _ => by simp; omega) ht
                    obtain ⟨nd, ed⟩ := kd.more
                    have f2 := kd.fwd
                    exact ⟨by omega, fun e => by omega, ⟨nc ++ (⟨tokAt ts i, [x, c.top]⟩ :: nd), by rw [ed, ec]; simp⟩, kd.inv, kd.top⟩
                · rw [if_neg okc] at h; simp at h; subst h; exact absurd ok okc
            · rw [if_neg hj] at h
              simp at h; subst h
              exact ⟨Nat.le_refl _, fun e => by omega, ⟨[], by simp⟩, hI, hx'⟩

theorem P_fwd (f : Nat) : ∀ (tag : Nat) (ts : List Tok) (i : Nat) (L : List Pt) (x : Nat) (r : Rd), P f tag ts i L x = some r → r.ok = true → (tag ≤ 6 ∨ tag = 10 ∨ tag = 11 ∨ tag = 13 ∨ tag = 14) → i ≤ r.i ∧ (tag < 10 → i < r.i) := by
  induction f with
  | zero => intro tag ts i L x r h; rw [P] at h; simp at h
  | succ f ih =>
    intro tag ts i L x r h ok ht
    by_cases h6 : tag = 6
    · subst h6
      by_cases hw : isW (tokAt ts i) wIf = true
      · obtain ⟨ra, rb, rc, hPa, hNb, hNc, hrc, hri, hrp⟩ := if_split h hw
        rw [hrc] at ok
        obtain ⟨oka, okb, _⟩ := hrp ok
        have ka := ih 6 ts (i + 1) L 0 ra hPa oka (by omega)
        unfold Nx at hNb hNc
        have hwb : isW (tokAt ts ra.i) wThen = true := by
          cases e : isW (tokAt ts ra.i) wThen with
          | true => rfl
          | false => rw [if_neg (by simp [e])] at hNb; rw [hNb.1] at okb; simp at okb
        have hwc : isW (tokAt ts rb.i) wElse = true := by
          cases e : isW (tokAt ts rb.i) wElse with
          | true => rfl
          | false => rw [if_neg (by simp [e])] at hNc; rw [hNc.1] at ok; simp at ok
        rw [if_pos ⟨oka, hwb⟩] at hNb
        rw [if_pos ⟨okb, hwc⟩] at hNc
        have kb := ih 6 ts (ra.i + 1) ra.L 0 rb hNb okb (by omega)
        have kc := ih 6 ts (rb.i + 1) rb.L 0 rc hNc ok (by omega)
        rw [hri]; omega
      · have k := ih 0 ts i L 0 r (if_not h hw) ok (by omega)
        exact ⟨k.1, fun _ => k.2 (by omega)⟩
    · by_cases h5 : tag = 5
      · subst h5
        by_cases hw : isW (tokAt ts i) [40] = true
        · obtain ⟨ra, hPa, hr⟩ := one_open h hw
          rcases hr with ⟨oka, hwa, rfl⟩ | ⟨_, hr, _⟩
          · have ka := ih 6 ts (i + 1) L 0 ra hPa oka (by omega)
            simp; omega
          · rw [hr] at ok; simp at ok
        · rcases one_alone h hw with ⟨ha, rfl⟩ | ⟨_, rfl⟩
          · simp
          · simp at ok
      · by_cases h2 : tag = 2
        · subst h2
          by_cases hw : isW (tokAt ts i) wNot = true
          · obtain ⟨ra, hPa, hra, hri, hrp⟩ := not_yes h hw
            rw [hra] at ok
            have ka := ih 2 ts (i + 1) L 0 ra hPa ok (by omega)
            rw [hri]; omega
          · have k := ih 3 ts i L 0 r (not_no h hw) ok (by omega)
            exact ⟨k.1, fun _ => k.2 (by omega)⟩
        · by_cases h10 : tag < 10
          · rw [P, if_neg h6, if_neg h5, if_neg h2, if_pos h10] at h
            cases ha : P f (tag + 1) ts i L 0 with
            | none => rw [ha] at h; simp [andThen] at h
            | some a =>
              rw [ha] at h
              simp only [andThen] at h
              by_cases oka : a.ok = true
              · rw [if_pos oka] at h
                have ka := ih (tag + 1) ts i L 0 a ha oka (by omega)
                have kb := ih (10 + tag) ts a.i a.L a.top r h ok (by omega)
                have := ka.2 (by omega)
                omega
              · rw [if_neg oka] at h; simp at h; subst h; exact absurd ok oka
          · rw [P, if_neg h6, if_neg h5, if_neg h2, if_neg h10] at h
            by_cases hj : joins (tag - 10) (tokAt ts i) = true
            · rw [if_pos hj] at h
              cases hb' : P f (tag - 9) ts (i + 1) L 0 with
              | none => rw [hb'] at h; simp [andThen] at h
              | some c =>
                rw [hb'] at h
                simp only [andThen] at h
                by_cases okc : c.ok = true
                · rw [if_pos okc] at h
                  have kc := ih (tag - 9) ts (i + 1) L 0 c hb' okc (by omega)
                  by_cases h13 : tag = 13
                  · rw [if_pos h13] at h; simp at h; subst h
                    simp [put]; omega
                  · rw [if_neg h13] at h
                    have kd := ih tag ts c.i (c.L ++ [⟨tokAt ts i, [x, c.top]⟩]) c.L.length r h ok ht
                    omega
                · rw [if_neg okc] at h; simp at h; subst h; exact absurd ok okc
            · rw [if_neg hj] at h
              simp at h; subst h
              simp; omega

theorem in_range {ts : List Tok} {i : Nat} (h : (tokAt ts i).k ≠ 0) : i < ts.length := by
  rcases Nat.lt_or_ge i ts.length with h1 | h1
  · exact h1
  · exact absurd (by unfold tokAt; rw [List.getD_eq_getElem?_getD, List.getElem?_eq_none h1]; rfl) h
theorem isW_range {ts : List Tok} {i : Nat} {x : List UInt8} (h : isW (tokAt ts i) x = true) : i < ts.length := in_range (by unfold isW at h; simp at h; omega)
theorem joins_range {ts : List Tok} {i n : Nat} (h : joins n (tokAt ts i) = true) : i < ts.length := in_range (by unfold joins at h; simp at h; omega)

/-- How many calls a form needs at one word. -/
def wt (tag : Nat) : Nat := if tag = 6 then 8 else if tag < 6 then 7 - tag else 1

theorem P_total (f : Nat) : ∀ (tag : Nat) (ts : List Tok) (i : Nat) (L : List Pt) (x : Nat), 16 * (ts.length - i) + wt tag ≤ f → (tag ≤ 6 ∨ tag = 10 ∨ tag = 11 ∨ tag = 13 ∨ tag = 14) → ∃ r, P f tag ts i L x = some r := by
  induction f with
  | zero => intro tag ts i L x h ht; exfalso; unfold wt at h; split at h; omega; split at h <;> omega
  | succ f ih =>
    intro tag ts i L x h ht
    by_cases h6 : tag = 6
    · subst h6
      have hw6 : wt 6 = 8 := rfl
      rw [P, if_pos rfl]
      by_cases hw : isW (tokAt ts i) wIf = true
      · rw [if_pos hw]
        have hr := isW_range hw
        obtain ⟨a, ha⟩ := ih 6 ts (i + 1) L 0 (by omega) (by omega)
        rw [ha]; simp only [andThen]
        by_cases oka : a.ok = true
        · rw [if_pos oka]
          have fa := (P_fwd f 6 ts (i + 1) L 0 a ha oka (by omega)).1
          by_cases ht' : isW (tokAt ts a.i) wThen = true
          · rw [if_pos ht']
            have hr2 := isW_range ht'
            obtain ⟨c, hc⟩ := ih 6 ts (a.i + 1) a.L 0 (by omega) (by omega)
            rw [hc]; simp only
            by_cases okc : c.ok = true
            · rw [if_pos okc]
              have fc := (P_fwd f 6 ts (a.i + 1) a.L 0 c hc okc (by omega)).1
              by_cases he : isW (tokAt ts c.i) wElse = true
              · rw [if_pos he]
                have hr3 := isW_range he
                obtain ⟨d, hd⟩ := ih 6 ts (c.i + 1) c.L 0 (by omega) (by omega)
                rw [hd]; simp only
                by_cases okd : d.ok = true
                · rw [if_pos okd]; exact ⟨_, rfl⟩
                · rw [if_neg okd]; exact ⟨_, rfl⟩
              · rw [if_neg he]; exact ⟨_, rfl⟩
            · rw [if_neg okc]; exact ⟨_, rfl⟩
          · rw [if_neg ht']; exact ⟨_, rfl⟩
        · rw [if_neg oka]; exact ⟨_, rfl⟩
      · rw [if_neg hw]
        exact ih 0 ts i L 0 (by have : wt 0 = 7 := rfl; omega) (by omega)
    · by_cases h5 : tag = 5
      · subst h5
        have hw5 : wt 5 = 2 := rfl
        rw [P, if_neg h6, if_pos rfl]
        by_cases hw : isW (tokAt ts i) [40] = true
        · rw [if_pos hw]
          have hr := isW_range hw
          obtain ⟨a, ha⟩ := ih 6 ts (i + 1) L 0 (by have : wt 6 = 8 := rfl; omega) (by omega)
          rw [ha]; simp only [andThen]
          by_cases oka : a.ok = true
          · rw [if_pos oka]
            by_cases hc : isW (tokAt ts a.i) [41] = true
            · rw [if_pos hc]; exact ⟨_, rfl⟩
            · rw [if_neg hc]; exact ⟨_, rfl⟩
          · rw [if_neg oka]; exact ⟨_, rfl⟩
        · rw [if_neg hw]
          by_cases ha : alone (tokAt ts i) = true
          · rw [if_pos ha]; exact ⟨_, rfl⟩
          · rw [if_neg ha]; exact ⟨_, rfl⟩
      · by_cases h2 : tag = 2
        · subst h2
          have hw2 : wt 2 = 5 := rfl
          rw [P, if_neg h6, if_neg h5, if_pos rfl]
          by_cases hw : isW (tokAt ts i) wNot = true
          · rw [if_pos hw]
            have hr := isW_range hw
            obtain ⟨a, ha⟩ := ih 2 ts (i + 1) L 0 (by omega) (by omega)
            rw [ha]; simp only [andThen]
            by_cases oka : a.ok = true
            · rw [if_pos oka]; exact ⟨_, rfl⟩
            · rw [if_neg oka]; exact ⟨_, rfl⟩
          · rw [if_neg hw]
            exact ih 3 ts i L 0 (by have : wt 3 = 4 := rfl; omega) (by omega)
        · by_cases h10 : tag < 10
          · rw [P, if_neg h6, if_neg h5, if_neg h2, if_pos h10]
            have hwt : wt (tag + 1) + 1 ≤ wt tag ∧ 2 ≤ wt tag := by
              have e : tag = 0 ∨ tag = 1 ∨ tag = 3 ∨ tag = 4 := by omega
              rcases e with rfl | rfl | rfl | rfl <;> decide
            obtain ⟨a, ha⟩ := ih (tag + 1) ts i L 0 (by omega) (by omega)
            rw [ha]; simp only [andThen]
            by_cases oka : a.ok = true
            · rw [if_pos oka]
              have fa := (P_fwd f (tag + 1) ts i L 0 a ha oka (by omega)).2 (by omega)
              have hwl : wt (10 + tag) = 1 := by unfold wt; rw [if_neg (by omega), if_neg (by omega)]
              exact ih (10 + tag) ts a.i a.L a.top (by rw [hwl]; omega) (by omega)
            · rw [if_neg oka]; exact ⟨_, rfl⟩
          · rw [P, if_neg h6, if_neg h5, if_neg h2, if_neg h10]
            have hwl : wt tag = 1 := by unfold wt; rw [if_neg (by omega), if_neg (by omega)]
            by_cases hj : joins (tag - 10) (tokAt ts i) = true
            · rw [if_pos hj]
              have hr := joins_range hj
              have hw9 : wt (tag - 9) ≤ 7 := by unfold wt; split; omega; split <;> omega
              obtain ⟨c, hc⟩ := ih (tag - 9) ts (i + 1) L 0 (by omega) (by omega)
              rw [hc]; simp only [andThen]
              by_cases okc : c.ok = true
              · rw [if_pos okc]
                have fc := (P_fwd f (tag - 9) ts (i + 1) L 0 c hc okc (by omega)).1
                by_cases h13 : tag = 13
                · rw [if_pos h13]; exact ⟨_, rfl⟩
                · rw [if_neg h13]
                  exact ih tag ts c.i _ _ (by omega) ht
              · rw [if_neg okc]; exact ⟨_, rfl⟩
            · rw [if_neg hj]; exact ⟨_, rfl⟩
end Go.Proofs.YtfkdailfcmnjlaaGreatDoor

namespace Go.Proofs.YtfkdailfcmnjlaaGreatDoor

/-- What a part may be. -/
def Shape (p : Pt) : Prop := (alone p.tok = true ∧ p.subs = []) ∨ (isW p.tok wNot = true ∧ p.subs.length = 1) ∨ (isW p.tok wIf = true ∧ p.subs.length = 3) ∨ (∃ n, isChain n ∧ joins n p.tok = true ∧ p.subs.length = 2)
/-- Trees one behind the other. -/
def Forest (T : Nat → Nat → Prop) : Nat → List Nat → Nat → Prop
  | lo, [], hi => lo = hi
  | lo, j :: js, hi => T lo j ∧ Forest T (j + 1) js hi
/-- The tree of a part is the run from a place up to it. -/
def TreeF : Nat → List Pt → Nat → Nat → Prop
  | 0, _, _, _ => False
  | f + 1, L, lo, i => i < L.length ∧ Shape (L.getD i noPt) ∧ Forest (TreeF f L) lo (L.getD i noPt).subs i

theorem Forest.mono {T T' : Nat → Nat → Prop} {js : List Nat} (hT : ∀ lo j, T lo j → T' lo j) : ∀ {lo hi}, Forest T lo js hi → Forest T' lo js hi := by
  induction js with
  | nil => intro lo hi h; exact h
  | cons j js ih => intro lo hi h; exact ⟨hT _ _ h.1, ih h.2⟩
theorem TreeF.up {f : Nat} : ∀ {L : List Pt} {lo i : Nat}, TreeF f L lo i → TreeF (f + 1) L lo i := by
  induction f with
  | zero => intro L lo i h; exact h.elim
  | succ f ih => intro L lo i h; exact ⟨h.1, h.2.1, h.2.2.mono fun lo j hj => ih hj⟩
theorem TreeF.upto {f g : Nat} (hg : f ≤ g) {L : List Pt} {lo i : Nat} (h : TreeF f L lo i) : TreeF g L lo i := by
  induction hg with
  | refl => exact h
  | step _ ih => exact ih.up
theorem TreeF.lt {f : Nat} {L : List Pt} {lo i : Nat} (h : TreeF f L lo i) : i < L.length := by
  cases f with
  | zero => exact h.elim
  | succ f => exact h.1
theorem TreeF.more {f : Nat} : ∀ {L : List Pt} {lo i : Nat}, TreeF f L lo i → ∀ new, TreeF f (L ++ new) lo i := by
  induction f with
  | zero => intro L lo i h; exact h.elim
  | succ f ih =>
    intro L lo i h new
    have e := getD_left (M := new) h.1
    refine ⟨by have := h.1; simp; omega, by rw [e]; exact h.2.1, by rw [e]; exact h.2.2.mono fun lo j hj => ih hj new⟩
def Tree (L : List Pt) (lo i : Nat) : Prop := ∃ f, TreeF f L lo i
theorem Tree.more {L : List Pt} {lo i : Nat} (h : Tree L lo i) {L' : List Pt} (hm : ∃ new, L' = L ++ new) : Tree L' lo i := by
  obtain ⟨f, h⟩ := h
  obtain ⟨new, rfl⟩ := hm
  exact ⟨f, h.more new⟩
theorem Tree.put {L : List Pt} {lo : Nat} {p : Pt} (hs : Shape p) {f : Nat} (hF : Forest (TreeF f L) lo p.subs L.length) : Tree (L ++ [p]) lo L.length :=
  ⟨f + 1, by simp, by rw [getD_last]; exact hs, by rw [getD_last]; exact hF.mono fun lo j hj => hj.more _⟩
theorem Tree.put1 {L : List Pt} {lo a : Nat} {p : Pt} (hs : Shape p) (hp : p.subs = [a]) (ha : Tree L lo a) (e : a + 1 = L.length) : Tree (L ++ [p]) lo L.length := by
  obtain ⟨f, ha⟩ := ha
  exact Tree.put (f := f) hs (by rw [hp]; exact ⟨ha, e⟩)
theorem Tree.put2 {L : List Pt} {lo a b : Nat} {p : Pt} (hs : Shape p) (hp : p.subs = [a, b]) (ha : Tree L lo a) (hb : Tree L (a + 1) b) (e : b + 1 = L.length) : Tree (L ++ [p]) lo L.length := by
  obtain ⟨f, ha⟩ := ha
  obtain ⟨g, hb⟩ := hb
  exact Tree.put (f := max f g) hs (by rw [hp]; exact ⟨ha.upto (by omega), hb.upto (by omega), e⟩)
theorem Tree.put3 {L : List Pt} {lo a b c : Nat} {p : Pt} (hs : Shape p) (hp : p.subs = [a, b, c]) (ha : Tree L lo a) (hb : Tree L (a + 1) b) (hc : Tree L (b + 1) c) (e : c + 1 = L.length) : Tree (L ++ [p]) lo L.length := by
  obtain ⟨f, ha⟩ := ha
  obtain ⟨g, hb⟩ := hb
  obtain ⟨k, hc⟩ := hc
  exact Tree.put (f := max f (max g k)) hs (by rw [hp]; exact ⟨ha.upto (by omega), hb.upto (by omega), hc.upto (by omega), e⟩)

/-- Words stand one behind the other. -/
def Sorted (ts : List Tok) : Prop := ∀ m n, m < n → n < ts.length → (tokAt ts m).pl < (tokAt ts n).pl
/-- The own names among the parts stand as in the text, ahead of a word. -/
def OwnUp (ts : List Tok) (L : List Pt) (i : Nat) : Prop :=
  (∀ k, k < L.length → (L.getD k noPt).tok.k = 111 → ∃ m, m < i ∧ m < ts.length ∧ (L.getD k noPt).tok = tokAt ts m) ∧
  (∀ k q, k < q → q < L.length → (L.getD k noPt).tok.k = 111 → (L.getD q noPt).tok.k = 111 → (L.getD k noPt).tok.pl < (L.getD q noPt).tok.pl) ∧
  (∀ k, k < L.length → (L.getD k noPt).tok ∈ ts)
theorem inside {ts : List Tok} {i : Nat} (h : tokAt ts i ≠ noTok) : i < ts.length ∧ tokAt ts i ∈ ts := by
  have hi : i < ts.length := by
    rcases Nat.lt_or_ge i ts.length with h1 | h1
    · exact h1
    · exact absurd (by unfold tokAt; rw [List.getD_eq_getElem?_getD, List.getElem?_eq_none (by omega)]; rfl) h
  exact ⟨hi, by unfold tokAt; rw [List.getD_eq_getElem?_getD, List.getElem?_eq_getElem hi]; exact List.getElem_mem hi⟩
theorem noTok_isW (x : List UInt8) : isW noTok x = false := rfl
theorem noTok_joins (n : Nat) : joins n noTok = false := by unfold joins noTok; simp
theorem OwnUp.mono {ts : List Tok} {L : List Pt} {i j : Nat} (h : OwnUp ts L i) (hj : i ≤ j) : OwnUp ts L j :=
  ⟨fun k hk ho => by obtain ⟨m, h1, h2⟩ := h.1 k hk ho; exact ⟨m, by omega, h2⟩, h.2⟩
theorem OwnUp.other {ts : List Tok} {L : List Pt} {i : Nat} (h : OwnUp ts L i) (p : Pt) (hp : p.tok.k ≠ 111) (hm : p.tok ∈ ts) : OwnUp ts (L ++ [p]) i := by
  have key : ∀ k, k < (L ++ [p]).length → ((L ++ [p]).getD k noPt).tok.k = 111 → k < L.length := fun k hk ho => by
    rcases Nat.lt_or_ge k L.length with h1 | h1
    · exact h1
    · have : k = L.length := by simp at hk; omega
      subst this; rw [getD_last] at ho; exact absurd ho hp
  refine ⟨fun k hk ho => ?_, fun k q hkq hq hk1 hq1 => ?_, fun k hk => ?_⟩
  · have h1 := key k hk ho
    rw [getD_left h1] at ho ⊢; exact h.1 k h1 ho
  · have h2 := key q hq hq1
    have h1 : k < L.length := by omega
    rw [getD_left h1] at hk1 ⊢; rw [getD_left h2] at hq1 ⊢
    exact h.2.1 k q hkq h2 hk1 hq1
  · rcases Nat.lt_or_ge k L.length with h1 | h1
    · rw [getD_left h1]; exact h.2.2 k h1
    · have : k = L.length := by simp at hk; omega
      subst this; rw [getD_last]; exact hm
theorem OwnUp.next {ts : List Tok} {L : List Pt} {i : Nat} (hS : Sorted ts) (h : OwnUp ts L i) (ha : alone (tokAt ts i) = true) : OwnUp ts (L ++ [⟨tokAt ts i, []⟩]) (i + 1) := by
  obtain ⟨hi, hmem⟩ := inside (ts := ts) (i := i) fun e => by rw [e] at ha; exact absurd ha (by decide)
  refine ⟨fun k hk ho => ?_, fun k q hkq hq hk1 hq1 => ?_, fun k hk => ?_⟩
  · rcases Nat.lt_or_ge k L.length with h1 | h1
    · rw [getD_left h1] at ho ⊢
      obtain ⟨m, a, b, c⟩ := h.1 k h1 ho
      exact ⟨m, by omega, b, c⟩
    · have : k = L.length := by simp at hk; omega
      subst this; rw [getD_last]; exact ⟨i, by omega, hi, rfl⟩
  · have h1 : k < L.length := by simp at hq; omega
    rw [getD_left h1] at hk1 ⊢
    rcases Nat.lt_or_ge q L.length with h2 | h2
    · rw [getD_left h2] at hq1 ⊢; exact h.2.1 k q hkq h2 hk1 hq1
    · have : q = L.length := by simp at hq; omega
      subst this; rw [getD_last] at hq1 ⊢
      obtain ⟨m, a, b, c⟩ := h.1 k h1 hk1
      rw [c]; exact hS m i a hi
  · rcases Nat.lt_or_ge k L.length with h1 | h1
    · rw [getD_left h1]; exact h.2.2 k h1
    · have : k = L.length := by simp at hk; omega
      subst this; rw [getD_last]; exact hmem
theorem isW_notown {t : Tok} {x : List UInt8} (h : isW t x = true) : t.k ≠ 111 := by
  unfold isW at h; simp at h; omega
theorem isW_in {ts : List Tok} {i : Nat} {x : List UInt8} (h : isW (tokAt ts i) x = true) : tokAt ts i ∈ ts := (inside fun e => by rw [e] at h; exact absurd h (by rw [noTok_isW]; simp)).2
theorem joins_in {ts : List Tok} {i n : Nat} (h : joins n (tokAt ts i) = true) : tokAt ts i ∈ ts := (inside fun e => by rw [e] at h; exact absurd h (by rw [noTok_joins]; simp)).2
theorem joins_notown {t : Tok} {n : Nat} (h : joins n t = true) : t.k ≠ 111 := by
  unfold joins at h; simp at h; omega

theorem P_new {g tag : Nat} {ts : List Tok} {i x : Nat} {L : List Pt} {r : Rd} (h : P g tag ts i L x = some r) (ok : r.ok = true) (ht : tag ≤ 6) : ∃ new, r.L = L ++ new :=
  (P_kept g tag ts i L x L.length r h ok (Nat.le_refl _) (fun k h1 h2 => by omega) (by omega) (.inl ht)).more

theorem P_tree {ts : List Tok} (hS : Sorted ts) (f : Nat) : ∀ (tag i : Nat) (L : List Pt) (x lo : Nat) (r : Rd), P f tag ts i L x = some r → r.ok = true → (tag ≤ 6 ∨ tag = 10 ∨ tag = 11 ∨ tag = 13 ∨ tag = 14) → OwnUp ts L i → (tag < 10 → lo = L.length) → (10 ≤ tag → x + 1 = L.length ∧ Tree L lo x) →
    r.top + 1 = r.L.length ∧ Tree r.L lo r.top ∧ OwnUp ts r.L r.i := by
  induction f with
  | zero => intro tag i L x lo r h; rw [P] at h; simp at h
  | succ f ih =>
    intro tag i L x lo r h ok ht hO hlo hx
    by_cases h6 : tag = 6
    · subst h6
      have hlo := hlo (by omega)
      by_cases hw : isW (tokAt ts i) wIf = true
      · obtain ⟨ra, rb, rc, hPa, hNb, hNc, hrc, hri, hrp⟩ := if_split h hw
        rw [hrc] at ok
        obtain ⟨oka, okb, rfl⟩ := hrp ok
        have fa := (P_fwd f 6 ts (i + 1) L 0 ra hPa oka (by omega)).1
        obtain ⟨a1, a2, a3⟩ := ih 6 (i + 1) L 0 lo ra hPa oka (by omega) (hO.mono (by omega)) (fun _ => hlo) (by omega)
        unfold Nx at hNb hNc
        have hwb : isW (tokAt ts ra.i) wThen = true := by
          cases e : isW (tokAt ts ra.i) wThen with
          | true => rfl
          | false => rw [if_neg (by simp [e])] at hNb; rw [hNb.1] at okb; simp at okb
        have hwc : isW (tokAt ts rb.i) wElse = true := by
          cases e : isW (tokAt ts rb.i) wElse with
          | true => rfl
          | false => rw [if_neg (by simp [e])] at hNc; rw [hNc.1] at ok; simp at ok
        rw [if_pos ⟨oka, hwb⟩] at hNb
        rw [if_pos ⟨okb, hwc⟩] at hNc
        have hmb := P_new hNb okb (by omega)
        have hmc := P_new hNc ok (by omega)
        obtain ⟨b1, b2, b3⟩ := ih 6 (ra.i + 1) ra.L 0 ra.L.length rb hNb okb (by omega) (a3.mono (by omega)) (fun _ => rfl) (by omega)
        obtain ⟨c1, c2, c3⟩ := ih 6 (rb.i + 1) rb.L 0 rb.L.length rc hNc ok (by omega) (b3.mono (by omega)) (fun _ => rfl) (by omega)
        refine ⟨by simp [put], ?_, ?_⟩
        · rw [← a1] at b2; rw [← b1] at c2
          exact Tree.put3 (.inr (.inr (.inl ⟨hw, rfl⟩))) rfl ((a2.more hmb).more hmc) (b2.more hmc) c2 c1
        · exact c3.other _ (isW_notown hw) (isW_in hw)
      · exact ih 0 i L 0 lo r (if_not h hw) ok (by omega) hO (fun _ => hlo) (by omega)
    · by_cases h5 : tag = 5
      · subst h5
        have hlo := hlo (by omega)
        by_cases hw : isW (tokAt ts i) [40] = true
        · obtain ⟨ra, hPa, hr⟩ := one_open h hw
          rcases hr with ⟨oka, hwa, rfl⟩ | ⟨_, hr, _⟩
          · obtain ⟨a1, a2, a3⟩ := ih 6 (i + 1) L 0 lo ra hPa oka (by omega) (hO.mono (by omega)) (fun _ => hlo) (by omega)
            exact ⟨a1, a2, a3.mono (by simp)⟩
          · rw [hr] at ok; simp at ok
        · rcases one_alone h hw with ⟨ha, rfl⟩ | ⟨_, rfl⟩
          · exact ⟨by simp, by rw [hlo]; exact Tree.put (f := 0) (.inl ⟨ha, rfl⟩) rfl, hO.next hS ha⟩
          · simp at ok
      · by_cases h2 : tag = 2
        · subst h2
          have hlo := hlo (by omega)
          by_cases hw : isW (tokAt ts i) wNot = true
          · obtain ⟨ra, hPa, hra, hri, hrp⟩ := not_yes h hw
            rw [hra] at ok
            have hrp := hrp ok
            subst hrp
            obtain ⟨a1, a2, a3⟩ := ih 2 (i + 1) L 0 lo ra hPa ok (by omega) (hO.mono (by omega)) (fun _ => hlo) (by omega)
            exact ⟨by simp [put], Tree.put1 (.inr (.inl ⟨hw, rfl⟩)) rfl a2 a1, a3.other _ (isW_notown hw) (isW_in hw)⟩
          · exact ih 3 i L 0 lo r (not_no h hw) ok (by omega) hO (fun _ => hlo) (by omega)
        · by_cases h10 : tag < 10
          · have hn : isChain tag := by unfold isChain; omega
            have hlo := hlo h10
            obtain ⟨ra, hPa, hr⟩ := chain_split hn h
            rcases hr with ⟨oka, hr⟩ | ⟨no, rfl⟩
            · unfold isChain at hn
              obtain ⟨a1, a2, a3⟩ := ih (tag + 1) i L 0 lo ra hPa oka (by omega) hO (fun _ => hlo) (by omega)
              exact ih (10 + tag) ra.i ra.L ra.top lo r hr ok (by omega) a3 (by omega) (fun _ => ⟨a1, a2⟩)
            · rw [no] at ok; simp at ok
          · obtain ⟨n, rfl⟩ : ∃ n, tag = 10 + n := ⟨tag - 10, by omega⟩
            have hn : isChain n := by unfold isChain; omega
            have hn' := hn
            unfold isChain at hn'
            obtain ⟨x1, x2⟩ := hx (by omega)
            cases hj : joins n (tokAt ts i) with
            | false =>
              have := loop_no hn h hj
              subst this
              exact ⟨x1, x2, hO⟩
            | true =>
              obtain ⟨rb, hPb, hr⟩ := loop_yes hn h hj
              rcases hr with ⟨no, rfl⟩ | ⟨okb, hr⟩
              · rw [no] at ok; simp at ok
              · have hmb := P_new hPb okb (by omega)
                obtain ⟨b1, b2, b3⟩ := ih (n + 1) (i + 1) L 0 L.length rb hPb okb (by omega) (hO.mono (by omega)) (fun _ => rfl) (by omega)
                rw [← x1] at b2
                have hT : Tree (rb.L ++ [⟨tokAt ts i, [x, rb.top]⟩]) lo rb.L.length := Tree.put2 (.inr (.inr (.inr ⟨n, hn, hj, rfl⟩))) rfl (x2.more hmb) b2 b1
                have hO2 : OwnUp ts (rb.L ++ [⟨tokAt ts i, [x, rb.top]⟩]) rb.i := b3.other _ (joins_notown hj) (joins_in hj)
                rcases hr with ⟨h3, rfl⟩ | ⟨h3, hr⟩
                · exact ⟨by simp [put], hT, hO2⟩
                · exact ih (10 + n) rb.i _ _ lo r hr ok (by omega) hO2 (by omega) (fun _ => ⟨by simp, hT⟩)
end Go.Proofs.YtfkdailfcmnjlaaGreatDoor

namespace Go.Proofs.YtfkdailfcmnjlaaGreatDoor

def sumOf (F : Nat → Nat) : List Nat → Nat
  | [] => 0
  | j :: js => F j + sumOf F js
/-- How many parts a tree has. -/
def cnt : Nat → List Pt → Nat → Nat
  | 0, _, _ => 1
  | f + 1, L, i => 1 + sumOf (cnt f L) (L.getD i noPt).subs

theorem forest_le {T : Nat → Nat → Prop} (hT : ∀ lo j, T lo j → lo ≤ j) (js : List Nat) : ∀ {lo hi}, Forest T lo js hi → lo ≤ hi := by
  induction js with
  | nil => intro lo hi h; exact Nat.le_of_eq h
  | cons j js ih => intro lo hi h; have := hT _ _ h.1; have := ih h.2; omega
theorem TreeF.le {f : Nat} : ∀ {L : List Pt} {lo i : Nat}, TreeF f L lo i → lo ≤ i := by
  induction f with
  | zero => intro L lo i h; exact h.elim
  | succ f ih => intro L lo i h; exact forest_le (fun lo j hj => ih hj) _ h.2.2
theorem forest_cnt {T : Nat → Nat → Prop} {F : Nat → Nat} (hT : ∀ lo j, T lo j → lo ≤ j ∧ F j = j + 1 - lo) (js : List Nat) : ∀ {lo hi}, Forest T lo js hi → sumOf F js = hi - lo := by
  induction js with
  | nil => intro lo hi h; have : lo = hi := h; subst this; simp [sumOf]
  | cons j js ih =>
    intro lo hi h
    have h1 := hT _ _ h.1
    have h2 := ih h.2
    have h3 := forest_le (fun lo j hj => (hT lo j hj).1) js h.2
    rw [sumOf, h2, h1.2]; omega
theorem TreeF.cnt {f : Nat} : ∀ {L : List Pt} {lo i : Nat}, TreeF f L lo i → cnt f L i = i + 1 - lo := by
  induction f with
  | zero => intro L lo i h; exact h.elim
  | succ f ih =>
    intro L lo i h
    have h0 := TreeF.le h
    have := forest_cnt (T := TreeF f L) (F := Go.Proofs.YtfkdailfcmnjlaaGreatDoor.cnt f L) (fun lo j hj => ⟨hj.le, ih hj⟩) _ h.2.2
    rw [Go.Proofs.YtfkdailfcmnjlaaGreatDoor.cnt, this]; omega
theorem foldMax_congr {F G : Nat → Nat} {l : List Nat} (h : ∀ j ∈ l, F j = G j) : foldMax F l = foldMax G l := by
  have : ∀ (l : List Nat) (m : Nat), (∀ j ∈ l, F j = G j) → l.foldl (fun m j => max m (F j)) m = l.foldl (fun m j => max m (G j)) m := by
    intro l
    induction l with
    | nil => intro m _; rfl
    | cons x l ih => intro m hl; rw [List.foldl_cons, List.foldl_cons, hl x (by simp)]; exact ih _ fun j hj => hl j (by simp [hj])
  exact this l 0 h
theorem forest_mem {T : Nat → Nat → Prop} (js : List Nat) : ∀ {lo hi}, Forest T lo js hi → ∀ j ∈ js, ∃ lo', T lo' j := by
  induction js with
  | nil => intro lo hi _ j hj; simp at hj
  | cons x js ih =>
    intro lo hi h j hj
    simp at hj
    rcases hj with rfl | hj
    · exact ⟨lo, h.1⟩
    · exact ih h.2 j hj
/-- The depth does not hang on the bound, if the bound is above the tree's. -/
theorem TreeF.dep {f : Nat} : ∀ {g : Nat} {L : List Pt} {lo i : Nat}, TreeF f L lo i → f ≤ g → dep g L i = dep f L i := by
  induction f with
  | zero => intro g L lo i h; exact h.elim
  | succ f ih =>
    intro g L lo i h hg
    obtain ⟨g, rfl⟩ : ∃ g', g = g' + 1 := ⟨g - 1, by omega⟩
    rw [Go.Proofs.YtfkdailfcmnjlaaGreatDoor.dep, Go.Proofs.YtfkdailfcmnjlaaGreatDoor.dep]
    rw [foldMax_congr fun j hj => ?_]
    obtain ⟨lo', hT⟩ := forest_mem _ h.2.2 j hj
    exact ih hT (by omega)
/-- A tree's bound can be its place. -/
theorem forest_down {T T' : Nat → Nat → Prop} (js : List Nat) : ∀ {lo hi}, (∀ lo j, T lo j → lo ≤ j) → (∀ lo j, j < hi → T lo j → T' lo j) → Forest T lo js hi → Forest T' lo js hi := by
  induction js with
  | nil => intro lo hi _ _ h; exact h
  | cons j js ih =>
    intro lo hi hl hT h
    have := forest_le hl js h.2
    exact ⟨hT _ _ (by omega) h.1, ih hl hT h.2⟩
theorem TreeF.fit {f : Nat} : ∀ {L : List Pt} {lo i : Nat}, TreeF f L lo i → TreeF (i + 1) L lo i := by
  induction f with
  | zero => intro L lo i h; exact h.elim
  | succ f ih =>
    intro L lo i h
    exact ⟨h.1, h.2.1, forest_down _ (fun lo j hj => hj.le) (fun lo j hj hT => (ih hT).upto (by omega)) h.2.2⟩
theorem Tree.fit {L : List Pt} {lo i : Nat} (h : Tree L lo i) : TreeF (i + 1) L lo i := by
  obtain ⟨f, h⟩ := h; exact h.fit

/-- The first answer of some. -/
def firstOf (F : Nat → Option Nat) : List Nat → Option Nat
  | [] => none
  | j :: js => match F j with
    | some p => some p
    | none => firstOf F js
/-- The place of the first wrong own name of a tree, from left to right. -/
def resF (bad : Tok → Bool) : Nat → List Pt → Nat → Option Nat
  | 0, _, _ => none
  | f + 1, L, i => if (L.getD i noPt).tok.k = 111 then (if bad (L.getD i noPt).tok then some (L.getD i noPt).tok.pl else none) else firstOf (resF bad f L) (L.getD i noPt).subs

theorem wrongAt_split (xs : List Itm) (L : List Pt) (n a : Nat) : ∀ (b k : Nat) (o : Option Nat), wrongAt xs L n (a + b) k o = wrongAt xs L n b (k + a) (wrongAt xs L n a k o) := by
  induction a with
  | zero => intro b k o; simp [wrongAt]
  | succ a ih =>
    intro b k o
    rw [show a + 1 + b = (a + b) + 1 from by omega, wrongAt, wrongAt, ih, show k + 1 + a = k + (a + 1) from by omega]
theorem wrongAt_stay (xs : List Itm) (L : List Pt) (n p c : Nat) : ∀ (k : Nat), (∀ q, k ≤ q → q < k + c → (L.getD q noPt).tok.k = 111 → p ≤ (L.getD q noPt).tok.pl) → wrongAt xs L n c k (some p) = some p := by
  induction c with
  | zero => intro k _; rfl
  | succ c ih =>
    intro k h
    rw [wrongAt]
    have e : wrongStep xs n (L.getD k noPt).tok (some p) = some p := by
      unfold wrongStep
      split
      · rename_i hc
        have := h k (Nat.le_refl _) (by omega) hc.1
        simp only [better]; rw [if_neg (by omega)]
      · rfl
    rw [e]
    exact ih (k + 1) fun q h1 h2 => h q (by omega) (by omega)

def badOf (xs : List Itm) (n : Nat) (t : Tok) : Bool := decide (letIx xs t.text n < 0)

theorem forest_res {xs : List Itm} {L : List Pt} {n : Nat} {T : Nat → Nat → Prop} {F : Nat → Option Nat}
    (hup : ∀ k q, k < q → q < L.length → (L.getD k noPt).tok.k = 111 → (L.getD q noPt).tok.k = 111 → (L.getD k noPt).tok.pl < (L.getD q noPt).tok.pl)
    (hT : ∀ lo j, T lo j → lo ≤ j ∧ wrongAt xs L n (j + 1 - lo) lo none = F j ∧ ∀ p, F j = some p → ∃ q, lo ≤ q ∧ q ≤ j ∧ (L.getD q noPt).tok.k = 111 ∧ (L.getD q noPt).tok.pl = p)
    (js : List Nat) : ∀ {lo hi}, hi ≤ L.length → Forest T lo js hi → wrongAt xs L n (hi - lo) lo none = firstOf F js ∧ ∀ p, firstOf F js = some p → ∃ q, lo ≤ q ∧ q < hi ∧ (L.getD q noPt).tok.k = 111 ∧ (L.getD q noPt).tok.pl = p := by
  induction js with
  | nil => intro lo hi _ h; have : lo = hi := h; subst this; simp [firstOf, wrongAt]
  | cons j js ih =>
    intro lo hi hh h
    obtain ⟨h1, h2, h3⟩ := hT _ _ h.1
    have h4 := forest_le (fun lo j hj => (hT lo j hj).1) js h.2
    obtain ⟨i1, i2⟩ := ih hh h.2
    rw [show hi - lo = (j + 1 - lo) + (hi - (j + 1)) from by omega, wrongAt_split, h2, show lo + (j + 1 - lo) = j + 1 from by omega, firstOf]
    cases hF : F j with
    | none =>
      refine ⟨i1, fun p hp => ?_⟩
      obtain ⟨q, a, b, c⟩ := i2 p hp
      exact ⟨q, by omega, b, c⟩
    | some p =>
      obtain ⟨q, a, b, c, d⟩ := h3 p hF
      refine ⟨wrongAt_stay xs L n p _ _ fun r hr1 hr2 ho => ?_, fun p' hp => ?_⟩
      · have := hup q r (by omega) (by omega) c ho
        omega
      · simp at hp; subst hp; exact ⟨q, a, by omega, c, d⟩

theorem shape_leaf {p : Pt} (h : Shape p) (ho : p.tok.k = 111) : p.subs = [] := by
  rcases h with ⟨_, h⟩ | ⟨h, _⟩ | ⟨h, _⟩ | ⟨n, _, h, _⟩
  · exact h
  · exact absurd ho (isW_notown h)
  · exact absurd ho (isW_notown h)
  · exact absurd ho (joins_notown h)

theorem TreeF.res {xs : List Itm} {n : Nat} {f : Nat} : ∀ {L : List Pt} {lo i : Nat}, (∀ k q, k < q → q < L.length → (L.getD k noPt).tok.k = 111 → (L.getD q noPt).tok.k = 111 → (L.getD k noPt).tok.pl < (L.getD q noPt).tok.pl) → TreeF f L lo i →
    wrongAt xs L n (i + 1 - lo) lo none = resF (badOf xs n) f L i ∧ ∀ p, resF (badOf xs n) f L i = some p → ∃ q, lo ≤ q ∧ q ≤ i ∧ (L.getD q noPt).tok.k = 111 ∧ (L.getD q noPt).tok.pl = p := by
  induction f with
  | zero => intro L lo i _ h; exact h.elim
  | succ f ih =>
    intro L lo i hup h
    have hle := h.le
    obtain ⟨g1, g2⟩ := forest_res (xs := xs) (n := n) hup (T := TreeF f L) (F := resF (badOf xs n) f L) (fun lo j hj => ⟨hj.le, ih hup hj⟩) _ (by have := h.1; omega) h.2.2
    rw [show i + 1 - lo = (i - lo) + 1 from by omega, wrongAt_split, g1, show lo + (i - lo) = i from by omega, wrongAt, wrongAt, resF]
    by_cases ho : (L.getD i noPt).tok.k = 111
    · rw [if_pos ho, shape_leaf h.2.1 ho, firstOf]
      unfold wrongStep badOf
      by_cases hb : letIx xs (L.getD i noPt).tok.text n < 0
      · rw [if_pos ⟨ho, hb⟩, decide_eq_true hb, if_pos rfl]
        refine ⟨rfl, fun p hp => ?_⟩
        simp at hp; exact ⟨i, hle, Nat.le_refl _, ho, hp⟩
      · rw [if_neg (fun e => hb e.2), decide_eq_false hb]
        exact ⟨rfl, fun p hp => by simp at hp⟩
    · rw [if_neg ho]
      unfold wrongStep
      rw [if_neg (fun e => ho e.1)]
      refine ⟨rfl, fun p hp => ?_⟩
      obtain ⟨q, a, b, c⟩ := g2 p hp
      exact ⟨q, a, by omega, c⟩
end Go.Proofs.YtfkdailfcmnjlaaGreatDoor

namespace Go.Proofs.YtfkdailfcmnjlaaGreatDoor

/-- The names that lets give. -/
def giv : List Itm → List (List UInt8)
  | [] => []
  | x :: r => if x.name = [] then giv r else x.name :: giv r
theorem giv_snoc (xs : List Itm) (x : Itm) : giv (xs ++ [x]) = if x.name = [] then giv xs else giv xs ++ [x.name] := by
  induction xs with
  | nil => simp [giv]
  | cons y r ih =>
    simp only [List.cons_append, giv, ih]
    split <;> split <;> simp
theorem giv_len (xs : List Itm) : (giv xs).length ≤ xs.length := by
  induction xs with
  | nil => simp [giv]
  | cons y r ih => rw [giv]; split <;> simp <;> omega
theorem giv_ix (s : List UInt8) (hs : s ≠ []) (xs : List Itm) : ∀ k, idx (giv (xs.take k)) s < 0 ↔ letIx xs s k < 0 := by
  induction xs with
  | nil => intro k; simp [giv, idx, letIx]
  | cons x r ih =>
    intro k
    cases k with
    | zero => simp [giv, idx, letIx]
    | succ k =>
      have := ih k
      rw [List.take_succ_cons, giv, letIx]
      by_cases hx : x.name = []
      · rw [if_pos hx, hx, if_neg (by simpa using hs)]
        by_cases h0 : letIx r s k < 0
        · rw [if_pos h0]; exact ⟨fun _ => by decide, fun _ => this.2 h0⟩
        · rw [if_neg h0]; constructor
          · intro h; exact absurd (this.1 h) h0
          · intro h; omega
      · rw [if_neg hx, idx]
        by_cases he : (x.name == s) = true
        · rw [if_pos he, if_pos he]
        · rw [if_neg he, if_neg he]
          by_cases h0 : letIx r s k < 0
          · rw [if_pos h0, if_pos (this.2 h0)]
          · rw [if_neg h0, if_neg (fun h => h0 (this.1 h))]
            have h1 : ¬ idx (giv (r.take k)) s < 0 := fun h => h0 (this.1 h)
            omega
/-- A type as the program numbers it. -/
def tcode (c : UInt8) : Nat := if c.toNat = 110 then 1 else if c.toNat = 116 then 2 else if c.toNat = 109 then 3 else 0
/-- The types of the lets among items. -/
def letTys : List Itm → List UInt8 → List Nat
  | x :: r, t :: ts => if x.name = [] then letTys r ts else tcode t :: letTys r ts
  | _, _ => []
theorem letTys_snoc (xs : List Itm) (x : Itm) (t : UInt8) : ∀ (its : List UInt8), its.length = xs.length → letTys (xs ++ [x]) (its ++ [t]) = if x.name = [] then letTys xs its else letTys xs its ++ [tcode t] := by
  induction xs with
  | nil => intro its h; obtain rfl : its = [] := by simpa using h
           simp [letTys]
  | cons y r ih =>
    intro its h
    cases its with
    | nil => simp at h
    | cons u its =>
      have := ih its (by simpa using h)
      simp only [List.cons_append, letTys, this]
      split <;> split <;> simp
theorem letTys_len (xs : List Itm) : ∀ (its : List UInt8), its.length = xs.length → (letTys xs its).length = (giv xs).length := by
  induction xs with
  | nil => intro its h; simp [letTys, giv]
  | cons y r ih =>
    intro its h
    cases its with
    | nil => simp at h
    | cons u its =>
      have := ih its (by simpa using h)
      rw [letTys, giv]; split <;> simp [this]
theorem letTys_at (s : List UInt8) (hs : s ≠ []) (xs : List Itm) : ∀ (its : List UInt8), its.length ≤ xs.length → 0 ≤ letIx xs s its.length → (letTys (xs.take its.length) its).getD (idx (giv (xs.take its.length)) s).toNat 0 = tcode (its.getD (letIx xs s its.length).toNat 0) := by
  induction xs with
  | nil => intro its h h0; simp [letIx] at h0
  | cons x r ih =>
    intro its h h0
    cases its with
    | nil => simp [letIx] at h0
    | cons u its =>
      rw [List.length_cons] at *
      rw [letIx] at h0 ⊢
      rw [List.take_succ_cons, letTys, giv]
      by_cases hx : x.name = []
      · have he : ¬ (x.name == s) = true := by rw [hx]; simpa using hs
        rw [if_neg he] at h0 ⊢
        rw [if_pos hx, if_pos hx]
        by_cases h1 : letIx r s its.length < 0
        · rw [if_pos h1] at h0; omega
        · rw [if_neg h1]
          rw [ih its (by simpa using h) (by omega), show (letIx r s its.length + 1).toNat = (letIx r s its.length).toNat + 1 from by omega, List.getD_cons_succ]
      · rw [if_neg hx, if_neg hx, idx]
        by_cases he : (x.name == s) = true
        · rw [if_pos he, if_pos he]; rfl
        · rw [if_neg he] at h0 ⊢
          rw [if_neg he]
          by_cases h1 : letIx r s its.length < 0
          · rw [if_pos h1] at h0; omega
          · have h2 : ¬ idx (giv (r.take its.length)) s < 0 := fun h => h1 ((giv_ix s hs r _).1 h)
            rw [if_neg h1, if_neg h2, show (letIx r s its.length + 1).toNat = (letIx r s its.length).toNat + 1 from by omega, show (idx (giv (r.take its.length)) s + 1).toNat = (idx (giv (r.take its.length)) s).toNat + 1 from by omega, List.getD_cons_succ, List.getD_cons_succ]
            exact ih its (by simpa using h) (by omega)
/-- The place among the names does not turn as more are given. -/
theorem idx_append {l m : List (List UInt8)} {s : List UInt8} (h : 0 ≤ idx l s) : idx (l ++ m) s = idx l s := by
  induction l with
  | nil => simp [idx] at h
  | cons x r ih =>
    rw [List.cons_append, idx, idx] at *
    by_cases he : (x == s) = true
    · rw [if_pos he, if_pos he]
    · rw [if_neg he] at h ⊢
      rw [if_neg he]
      by_cases h1 : idx r s < 0
      · rw [if_pos h1] at h; omega
      · rw [ih (by omega)]
theorem giv_more (xs : List Itm) (k : Nat) : ∃ m, giv xs = giv (xs.take k) ++ m := by
  induction xs generalizing k with
  | nil => exact ⟨[], by simp [giv]⟩
  | cons x r ih =>
    cases k with
    | zero => exact ⟨_, by simp [giv]; rfl⟩
    | succ k =>
      obtain ⟨m, hm⟩ := ih k
      refine ⟨m, ?_⟩
      rw [List.take_succ_cons, giv, giv, hm]
      split <;> simp
end Go.Proofs.YtfkdailfcmnjlaaGreatDoor

namespace Go.Proofs.YtfkdailfcmnjlaaGreatDoor

theorem wrongAt_fine {xs : List Itm} {L : List Pt} {i : Nat} (c : Nat) : ∀ (k : Nat) (o : Option Nat), wrongAt xs L i c k o = none → o = none ∧ ∀ q, k ≤ q → q < k + c → (L.getD q noPt).tok.k = 111 → 0 ≤ letIx xs (L.getD q noPt).tok.text i := by
  induction c with
  | zero => intro k o h; exact ⟨h, fun q h1 h2 => by omega⟩
  | succ c ih =>
    intro k o h
    rw [wrongAt] at h
    obtain ⟨h1, h2⟩ := ih _ _ h
    unfold wrongStep at h1
    by_cases hc : (L.getD k noPt).tok.k = 111 ∧ letIx xs (L.getD k noPt).tok.text i < 0
    · rw [if_pos hc] at h1
      exfalso
      cases o with
      | none => simp [better] at h1
      | some p =>
        have hbt : ∀ m, better m (some p) ≠ none := fun m => by simp only [better]; split <;> simp
        exact hbt _ h1
    · rw [if_neg hc] at h1
      refine ⟨h1, fun q hq1 hq2 hq3 => ?_⟩
      by_cases e : q = k
      · subst e
        by_cases hl : letIx xs (L.getD q noPt).tok.text i < 0
        · exact absurd ⟨hq3, hl⟩ hc
        · omega
      · exact h2 q (by omega) (by omega) hq3
theorem firstOf_congr {F G : Nat → Option Nat} {js : List Nat} (h : ∀ j ∈ js, F j = G j) : firstOf F js = firstOf G js := by
  induction js with
  | nil => rfl
  | cons x js ih => rw [firstOf, firstOf, h x (by simp), ih fun j hj => h j (by simp [hj])]
theorem resF_congr {bad bad' : Tok → Bool} {L : List Pt} (hb : ∀ k, k < L.length → (L.getD k noPt).tok.k = 111 → bad (L.getD k noPt).tok = bad' (L.getD k noPt).tok) (f : Nat) : ∀ {lo i : Nat}, TreeF f L lo i → resF bad f L i = resF bad' f L i := by
  induction f with
  | zero => intro lo i h; exact h.elim
  | succ f ih =>
    intro lo i h
    rw [resF, resF]
    by_cases ho : (L.getD i noPt).tok.k = 111
    · rw [if_pos ho, if_pos ho, hb i h.1 ho]
    · rw [if_neg ho, if_neg ho]
      exact firstOf_congr fun j hj => by
        obtain ⟨lo', hT⟩ := forest_mem _ h.2.2 j hj
        exact ih hT
/-- The items' trees stand one behind the other. -/
def TreesAt (L : List Pt) : List Itm → Nat → Prop
  | [], fr => fr = L.length
  | x :: r, fr => Tree L fr x.top ∧ x.top + 1 = x.parts ∧ TreesAt L r x.parts
/-- What is known of the parts of a text that was read. -/
structure PartsOK (L : List Pt) : Prop where
  up : ∀ k q, k < q → q < L.length → (L.getD k noPt).tok.k = 111 → (L.getD q noPt).tok.k = 111 → (L.getD k noPt).tok.pl < (L.getD q noPt).tok.pl
  own : ∀ k, k < L.length → (L.getD k noPt).tok.k = 111 → (L.getD k noPt).tok.text ≠ []
  few : L.length ≤ 5000
/-- One item's names. -/
theorem names_item {xs : List Itm} {L : List Pt} (hL : PartsOK L) {x : Itm} {r : List Itm} {fr i : Nat} (hT : Tree L fr x.top) (hp : x.top + 1 = x.parts) :
    namesAt xs L (x :: r) fr i = if x.name ≠ [] ∧ 0 ≤ idx (giv (xs.take i)) x.name then some x.named else (resF (badOf xs i) (x.top + 1) L x.top).or (namesAt xs L r x.parts (i + 1)) := by
  have h1 := (TreeF.res (xs := xs) (n := i) hL.up hT.fit).1
  rw [namesAt, ← hp, h1]
  by_cases hn : x.name = []
  · rw [if_neg (fun e => e.1 hn), if_neg (fun e => e.1 hn)]
  · have h2 := giv_ix x.name hn xs i
    by_cases h0 : letIx xs x.name i < 0
    · rw [if_neg (fun e => by have := e.2; omega), if_neg (fun e => by have := h2.2 h0; have := e.2; omega)]
    · rw [if_pos ⟨hn, by omega⟩, if_pos ⟨hn, by
        have : ¬ idx (giv (xs.take i)) x.name < 0 := fun h => h0 (h2.1 h)
        omega⟩]
theorem giv_keep {xs : List Itm} (i : Nat) {s : List UInt8} (h : 0 ≤ idx (giv (xs.take i)) s) : idx (giv xs) s = idx (giv (xs.take i)) s := by
  obtain ⟨m, hm⟩ := giv_more xs i
  rw [hm]; exact idx_append h
end Go.Proofs.YtfkdailfcmnjlaaGreatDoor

namespace Go.Proofs.YtfkdailfcmnjlaaGreatDoor
open Go Go.RowKit
set_option maxRecDepth 100000

abbrev S (l : List UInt8) : Value := .string ⟨l.toArray⟩

set_option maxHeartbeats 400000 in
theorem index_any (ss : List (List UInt8)) (s : List UInt8) (b : Nat) (w : World) (hl : ss.length ≤ 1000)
    (hc : ∀ i, i < ss.length → w.cell? ⟨b, i, none⟩ = some (S (ss.getD i []))) :
    Calls Tryz.prog 87 #[.slice (some ⟨b, 0, none⟩) ss.length ss.length, S s] w fun e w' => e = .returned (.int .i64 (idx ss s)) ∧ w' = w := by
  go_enter Tryz.func87, Tryz.ntmps87
  go_wp2
  go_loop [5] (fun i => ∃ k : Nat, k ≤ ss.length ∧ i = .int .i64 k ∧ idx ss s = (if idx (ss.drop k) s < 0 then -1 else idx (ss.drop k) s + k)) (fun i => ss.length - (intOf i).toNat)
  case atStart =>
    refine ⟨0, Nat.zero_le _, rfl, ?_⟩
    have := idx_ge ss s
    simp; omega
  case round =>
    obtain ⟨k, hk, rfl, hi⟩ := hrel
    have hd := idx_drop ss s k
    have H : Hid _ := hi
    have HD : Hid _ := hd
    clear hi hd
    have hcell : k < ss.length → w.cell? ⟨b, k, none⟩ = some (S (ss.getD k [])) := fun h => hc k h
    go_wp2
    · go_ret
      have hd := HD.out ‹_›
      refine ⟨?_, rfl⟩
      rw [H.out, hd]
      simp [*]
    · refine ⟨⟨k + 1, by omega, by go_num, ?_⟩, by simp [intOf]; omega⟩
      rw [H.out, HD.out ‹_›]
      have := idx_ge (ss.drop (k + 1)) s
      simp [*]
      split <;> omega
    · go_ret
      refine ⟨?_, rfl⟩
      rw [H.out, List.drop_of_length_le (by omega)]
      simp [idx]
theorem ret_bool {a b : Bool} (h : a = b) : Ending.returned (.bool a) = .returned (.bool b) := by rw [h]
theorem ret_int {k : IntKind} {a b : Int} (h : a = b) : Ending.returned (.int k a) = .returned (.int k b) := by rw [h]

/-- A new slice of these strings. -/
def NewStrs (l : List (List UInt8)) (e : Ending) (w w' : World) : Prop :=
  ∃ b, e = .returned (.slice (some ⟨b, 0, none⟩) l.length l.length) ∧ (∀ i, i < l.length → w'.cell? ⟨b, i, none⟩ = some (S (l.getD i []))) ∧ Below w.heap.size w w' ∧ w.heap.size ≤ b ∧ b < w'.heap.size

theorem newStrs_alloc (w : World) (l : List (List UInt8)) (cs : Array Value) (v : Value) (hv : v = .slice (some ⟨w.heap.size, 0, none⟩) l.length l.length) (h : cs = (l.map S).toArray) :
    NewStrs l (.returned v) w (w.alloc (.cells cs 9)) := by
  subst h hv
  refine ⟨w.heap.size, rfl, ?_, (Below.refl _ _).alloc (Nat.le_refl _) _, Nat.le_refl _, by simp⟩
  intro i hi
  simp [hi]

set_option maxHeartbeats 400000 in
theorem members_any (w : World) : Calls Tryz.prog 89 #[] w (fun e w' => NewStrs kMembers e w w') := by
  go_enter Tryz.func89, Tryz.ntmps89
  go_wp2
  go_ret
  exact newStrs_alloc w kMembers _ _ rfl rfl
set_option maxHeartbeats 400000 in
theorem fields_any (w : World) : Calls Tryz.prog 88 #[] w (fun e w' => NewStrs kFields e w w') := by
  go_enter Tryz.func88, Tryz.ntmps88
  go_wp2
  go_ret
  exact newStrs_alloc w kFields _ _ rfl rfl
set_option maxHeartbeats 400000 in
theorem others_any (w : World) : Calls Tryz.prog 219 #[] w (fun e w' => NewStrs kOthers e w w') := by
  go_enter Tryz.func219, Tryz.ntmps219
  go_wp2
  go_ret
  exact newStrs_alloc w kOthers _ _ rfl rfl

set_option maxHeartbeats 400000 in
theorem isKeyword_any (s : List UInt8) (w : World) : Calls Tryz.prog 158 #[S s] w (fun e w' => e = .returned (.bool (isKw s)) ∧ Below w.heap.size w w') := by
  go_enter Tryz.func158, Tryz.ntmps158
  go_wp2_with fail
  refine (members_any _).mono ?_
  rintro e w1 ⟨b1, rfl, hc1, hb1, hl1, hs1⟩
  go_wp2_with fail
  refine (index_any kMembers s b1 w1 (by decide) hc1).mono ?_
  rintro e w1 ⟨rfl, rfl⟩
  go_wp2_with fail
  refine (fields_any _).mono ?_
  rintro e w2 ⟨b2, rfl, hc2, hb2, hl2, hs2⟩
  go_wp2_with fail
  refine (index_any kFields s b2 w2 (by decide) hc2).mono ?_
  rintro e w2 ⟨rfl, rfl⟩
  go_wp2_with fail
  refine (others_any _).mono ?_
  rintro e w3 ⟨b3, rfl, hc3, hb3, hl3, hs3⟩
  go_wp2_with fail
  refine (index_any kOthers s b3 w3 (by decide) hc3).mono ?_
  rintro e w3 ⟨rfl, rfl⟩
  have hb : Below w.heap.size w w3 := hb1.trans ((hb2.mono hb1.size).trans (hb3.mono (Nat.le_trans hb1.size hb2.size)))
  clear hc1 hc2 hc3
  have i1 := idx_ge kMembers s
  have i2 := idx_ge kFields s
  have i3 := idx_ge kOthers s
  generalize h1 : idx kMembers s = m1 at *
  generalize h2 : idx kFields s = m2 at *
  generalize h3 : idx kOthers s = m3 at *
  have H : Hid (isKw s = (decide (0 ≤ m1) || decide (0 ≤ m2) || decide (0 ≤ m3))) := by show _ = _; rw [← h1, ← h2, ← h3]; rfl
  clear h1 h2 h3
  go_wp2
  all_goals go_ret
  all_goals refine ⟨?_, hb⟩
  all_goals exact ret_bool (by rw [H.out] <;> simp [*])
end Go.Proofs.YtfkdailfcmnjlaaGreatDoor

namespace Go.Proofs.YtfkdailfcmnjlaaGreatDoor
open Go Go.RowKit
set_option maxRecDepth 100000

theorem binOp_string_gtr (t : TypeId) (a b : ByteArray) : binOp .gtr t (.string a) (.string b) = pure (.bool (!Op.bytesLess a.toList b.toList && !a.toList == b.toList)) := by simp [binOp, Op.stringOp]
attribute [local go_sem] binOp_string_gtr

theorem z_of {c : UInt8} {b : Bool} (h : ((c.toNat : Int) == 48) = b) : isZ c = b := by
  unfold isZ; rw [← h, Bool.eq_iff_iff]; simp; omega

theorem toList_from (s : List UInt8) (k : Nat) : ((ByteArray.mk s.toArray).extract k s.length).toList = s.drop k := by
  rw [ByteArray.extract_mk, ByteArray.toList_mk]
  exact List.take_of_length_le (by simp)

theorem greatB_of (s : List UInt8) (k : Nat) (h : stop isZ s 0 = k) : greatB s = (decide (19 < s.length - k) || (decide (s.length - k = 19) && gtB (s.drop k) kMost)) := by
  unfold greatB; rw [h]; simp

theorem great_fin (s : List UInt8) (k : Nat) (h : stop isZ s 0 = k) :
    (19 < s.length - k → greatB s = true) ∧ (s.length - k ≤ 19 → ¬ s.length - k = 19 → greatB s = false) ∧ (s.length - k = 19 → greatB s = gtB (s.drop k) kMost) := by
  rw [greatB_of s k h]
  refine ⟨fun h1 => by simp [h1], fun h1 h2 => ?_, fun h1 => by simp [h1]⟩
  simp [h2]; omega

set_option maxHeartbeats 400000 in
theorem great_raw (s : List UInt8) (w : World) (hs : s.length ≤ 1000) :
    Calls Tryz.prog 157 #[S s] w fun e w' => e = .returned (.bool (greatB s)) ∧ w' = w := by
  go_enter Tryz.func157, Tryz.ntmps157
  go_wp2
  go_loop [3] (fun i => ∃ k : Nat, k ≤ s.length ∧ i = .int .i64 k ∧ stop isZ s 0 = stop isZ s k) (fun i => s.length - (intOf i).toNat)
  case atStart => exact ⟨0, Nat.zero_le _, rfl, rfl⟩
  case round =>
    obtain ⟨k, hk, rfl, hi⟩ := hrel
    have H : Hid _ := hi
    clear hi
    by_cases hlt : k < s.length
    · go_wp2
      · refine ⟨⟨k + 1, by omega, by go_num, ?_⟩, by simp [intOf]; omega⟩
        rw [H.out]; exact stop_step isZ s k hlt (z_of ‹_›)
      all_goals
        have hf := great_fin s k (by rw [H.out]; exact stop_no isZ s k hlt (z_of ‹_›))
        go_ret
        refine ⟨ret_bool ?_, rfl⟩
      · rw [hf.2.2 (by omega)]
        rw [toList_from]; rfl
      · rw [hf.2.1 (by omega) (by omega)]
        simp; omega
      · exact (hf.1 (by omega)).symm
    · have hstop := stop_end isZ s k (by omega)
      have hf : Hid _ := great_fin s k (by rw [H.out, hstop])
      clear hstop
      go_wp2
      go_ret
      refine ⟨ret_bool ?_, rfl⟩
      rw [hf.out.2.1 (by omega) (by omega)]
      simp; omega

theorem cut_ex (l : List UInt8) (a b : Nat) : (ByteArray.mk l.toArray).extract a b = ⟨(cut l a b).toArray⟩ := ByteArray.extract_mk l a b
theorem cut_len (l : List UInt8) (a b : Nat) (h : b ≤ l.length) : (cut l a b).length = b - a := by
  unfold cut; simp; omega
theorem cut_stop (p : UInt8 → Bool) (l : List UInt8) (a : Nat) : ∀ c ∈ cut l a (stop p l a), p c = true := by
  intro c hc
  unfold cut stop at hc
  have h1 : a + ((l.drop a).takeWhile p).length - a = ((l.drop a).takeWhile p).length := by omega
  rw [h1] at hc
  have h2 : (l.drop a).take ((l.drop a).takeWhile p).length = (l.drop a).takeWhile p := by
    have := (List.takeWhile_prefix (l := l.drop a) p)
    exact (List.prefix_iff_eq_take.1 this).symm
  rw [h2] at hc
  have h3 := List.all_takeWhile (p := p) (l := l.drop a)
  exact List.all_eq_true.1 h3 c hc

theorem d_yes {c : UInt8} (h1 : 48 ≤ (c.toNat : Int)) (h2 : (c.toNat : Int) ≤ 57) : isD c = true := by
  unfold isD; simp; omega
theorem d_no1 {c : UInt8} (h1 : (c.toNat : Int) < 48) : isD c = false := by
  unfold isD; simp; omega
theorem d_no2 {c : UInt8} (h1 : 57 < (c.toNat : Int)) : isD c = false := by
  unfold isD; simp; omega
theorem l_yes {c : UInt8} (h1 : 97 ≤ (c.toNat : Int)) (h2 : (c.toNat : Int) ≤ 122) : isL c = true := by
  unfold isL; simp; omega
theorem l_no1 {c : UInt8} (h1 : (c.toNat : Int) < 97) : isL c = false := by
  unfold isL; simp; omega
theorem l_no2 {c : UInt8} (h1 : 122 < (c.toNat : Int)) : isL c = false := by
  unfold isL; simp; omega

def tokV (t : Tok) : Value := .agg #[.int .u8 t.k, S t.text, .int .i64 t.pl]
/-- What 'word' answers. -/
def WordAns (l : List UInt8) (a : Nat) (e : Ending) : Prop := match wordAt l a with
  | some t => e = .returned (.tuple #[tokV t, .bool true])
  | none => ∃ k s p, e = .returned (.tuple #[.agg #[.int .u8 k, S s, .int .i64 p], .bool false])

theorem wa_num (l : List UInt8) (a D : Nat) (h : wordAt l a = if big (cut l a D) = true then none else some ⟨110, cut l a D, a⟩) (hg : greatB (cut l a D) = big (cut l a D)) :
    WordAns l a (.returned (.tuple #[.agg #[.int .u8 110, S (cut l a D), .int .i64 a], .bool (!greatB (cut l a D))])) := by
  unfold WordAns; rw [h, hg]
  cases big (cut l a D)
  · rfl
  · exact ⟨110, _, a, rfl⟩
theorem wa_some (l : List UInt8) (a : Nat) (t : Tok) (h : wordAt l a = some t) : WordAns l a (.returned (.tuple #[tokV t, .bool true])) := by
  unfold WordAns; rw [h]
theorem wa_none (l : List UInt8) (a : Nat) (k : Int) (s : List UInt8) (p : Int) (h : wordAt l a = none) : WordAns l a (.returned (.tuple #[.agg #[.int .u8 k, S s, .int .i64 p], .bool false])) := by
  unfold WordAns; rw [h]; exact ⟨k, s, p, rfl⟩
theorem bcell {W w1 : World} (hb : Below W.heap.size W w1) : (∀ b o, b < W.heap.size → w1.cell? ⟨b, o, none⟩ = W.cell? ⟨b, o, none⟩) ∧ (∀ b o, b < W.heap.size → w1.frozen? ⟨b, o, none⟩ = W.frozen? ⟨b, o, none⟩) :=
  ⟨fun b o h => hb.cell (p := ⟨b, o, none⟩) h, fun b o h => hb.frozen (p := ⟨b, o, none⟩) h⟩

theorem cell_set_same (w : World) (b i : Nat) (v : Value) (h : (w.cell? ⟨b, i, none⟩).isSome = true) : (w.setCell ⟨b, i, none⟩ v).cell? ⟨b, i, none⟩ = some v := by
  cases e : w.cell? ⟨b, i, none⟩ with
  | none => rw [e] at h; simp at h
  | some u => exact World.cell?_setCell_same _ _ _ e
theorem cell_set_off (w : World) (b i j : Nat) (v : Value) (h : i ≠ j) : (w.setCell ⟨b, i, none⟩ v).cell? ⟨b, j, none⟩ = w.cell? ⟨b, j, none⟩ :=
  World.cell?_setCell_other _ _ _ _ (by simp [h])
theorem some_set (w : World) (b i j : Nat) (v : Value) (h : (w.cell? ⟨b, j, none⟩).isSome = true) : ((w.setCell ⟨b, i, none⟩ v).cell? ⟨b, j, none⟩).isSome = true := by
  by_cases e : i = j
  · subst e; rw [cell_set_same _ _ _ _ h]; rfl
  · rw [cell_set_off _ _ _ _ _ e]; exact h

set_option maxHeartbeats 1000000 in
theorem word_num (l : List UInt8) (a : Nat) (w : World) (hl : l.length ≤ 1000) (ha : a < l.length) (hd : a < stop isD l a) :
    Calls Tryz.prog 112 #[S l, .int .i64 a] w fun e w' => WordAns l a e ∧ Below w.heap.size w w' := by
  have hwa : Hid (wordAt l a = if big (cut l a (stop isD l a)) then none else some ⟨110, cut l a (stop isD l a), a⟩) := by
    show _ = _; unfold wordAt; rw [if_pos hd]
  have hle := stop_le isD l a (by omega)
  have hgb : Hid _ := greatB_big _ (cut_stop isD l a)
  generalize hD : stop isD l a = D at *
  have HD : Hid _ := hD
  clear hD
  go_enter Tryz.func112, Tryz.ntmps112
  go_wp2_with fail
  go_loop [6] (fun i => ∃ k : Nat, a ≤ k ∧ k ≤ l.length ∧ i = .int .i64 k ∧ D = stop isD l k) (fun i => l.length - (intOf i).toNat)
  case atStart => exact ⟨a, Nat.le_refl _, by omega, rfl, HD.out.symm⟩
  case round =>
    obtain ⟨k, hak, hk, rfl, hi⟩ := hrel
    have H : Hid _ := hi
    clear hi
    by_cases hlt : k < l.length
    · go_wp2_with fail
      case roundEnd =>
        refine ⟨⟨k + 1, by omega, by omega, by go_num, ?_⟩, by simp [intOf]; omega⟩
        rw [H.out]; exact stop_step isD l k hlt (d_yes ‹_› ‹_›)
      all_goals
        have hstop : D = k := by rw [H.out]; exact stop_no isD l k hlt (by first | exact d_no1 ‹_› | exact d_no2 ‹_›)
        subst hstop
        try (exfalso; omega)
      all_goals
        rw [cut_ex]
        refine (great_raw (cut l a D) _ (by rw [cut_len l a D hle]; omega)).mono ?_
        rintro e w1 ⟨rfl, rfl⟩
        go_wp2_with fail
        exact bodyPost_ret (v := .tuple #[.agg #[.int .u8 110, S (cut l a D), .int .i64 a], .bool (!greatB (cut l a D))]) (by simp [results, Tryz.results112, go_sem, cut_ex]) rfl ⟨wa_num l a D hwa.out hgb.out, (Below.refl _ _).alloc (Nat.le_refl _) _⟩
    · have hstop : D = k := by rw [H.out]; exact stop_end isD l k (by omega)
      subst hstop
      go_wp2_with fail
      rw [cut_ex]
      refine (great_raw (cut l a D) _ (by rw [cut_len l a D hle]; omega)).mono ?_
      rintro e w1 ⟨rfl, rfl⟩
      go_wp2_with fail
      exact bodyPost_ret (v := .tuple #[.agg #[.int .u8 110, S (cut l a D), .int .i64 a], .bool (!greatB (cut l a D))]) (by simp [results, Tryz.results112, go_sem, cut_ex]) rfl ⟨wa_num l a D hwa.out hgb.out, (Below.refl _ _).alloc (Nat.le_refl _) _⟩

theorem no_first {p : UInt8 → Bool} {l : List UInt8} {a : Nat} (ha : a < l.length) (h : ¬ a < stop p l a) : p l[a] = false := by
  cases e : p l[a] with
  | false => rfl
  | true => exact absurd (by rw [stop_step p l a ha e]; have := stop_ge p l (a + 1); omega) h
theorem d_not {c : UInt8} (h : isD c = false) : (c.toNat : Int) < 48 ∨ 57 < (c.toNat : Int) := by
  unfold isD at h; simp at h; omega
theorem l_not {c : UInt8} (h : isL c = false) : (c.toNat : Int) < 97 ∨ 122 < (c.toNat : Int) := by
  unfold isL at h; simp at h; omega

end Go.Proofs.YtfkdailfcmnjlaaGreatDoor

namespace Go.Proofs.YtfkdailfcmnjlaaGreatDoor
open Go Go.RowKit
set_option maxRecDepth 100000

theorem below_set3 {a w : World} {b : Nat} (h : Below b a w) (u v x : Value) : Below b a (((w.setCell ⟨b, 0, none⟩ u).setCell ⟨b, 1, none⟩ v).setCell ⟨b, 2, none⟩ x) :=
  ((h.setCell (p := ⟨b, 0, none⟩) (Nat.le_refl _) u).setCell (p := ⟨b, 1, none⟩) (Nat.le_refl _) v).setCell (p := ⟨b, 2, none⟩) (Nat.le_refl _) x
theorem wa_own (l : List UInt8) (a D : Nat) (hk : ¬ isKw (cut l a D) = true) (h : wordAt l a = if isKw (cut l a D) = true then some ⟨107, cut l a D, a⟩ else if D - a ≤ 8 then some ⟨111, cut l a D, a⟩ else none) (hd : a ≤ D) :
    WordAns l a (.returned (.tuple #[.agg #[.int .u8 111, S (cut l a D), .int .i64 a], .bool (decide ((D : Int) - a ≤ 8))])) := by
  rw [if_neg hk] at h
  by_cases h8 : D - a ≤ 8
  · rw [if_pos h8] at h
    rw [decide_eq_true (by omega)]
    exact wa_some l a _ h
  · rw [if_neg h8] at h
    rw [decide_eq_false (by omega)]
    exact wa_none l a _ _ _ h

set_option maxHeartbeats 1000000 in
theorem word_name (l : List UInt8) (a : Nat) (w : World) (hl : l.length ≤ 1000) (ha : a < l.length) (hd : ¬ a < stop isD l a) (hL : a < stop isL l a) :
    Calls Tryz.prog 112 #[S l, .int .i64 a] w fun e w' => WordAns l a e ∧ Below w.heap.size w w' := by
  have hwa : wordAt l a = (if isKw (cut l a (stop isL l a)) then some ⟨107, cut l a (stop isL l a), a⟩
     else if stop isL l a - a ≤ 8 then some ⟨111, cut l a (stop isL l a), a⟩ else none) := by
    unfold wordAt; rw [if_neg hd, if_pos hL]
  have hle := stop_le isL l a (by omega)
  have hla : isL l[a] = true := by
    cases e : isL l[a] with
    | true => rfl
    | false => exact absurd hL (by rw [stop_no isL l a ha e]; omega)
  have hnd : (97 : Int) ≤ (((ByteArray.mk l.toArray)[a]'ha).toNat : Int) := by
    have h : 97 ≤ l[a].toNat := by unfold isL at hla; simp at hla; omega
    exact Int.ofNat_le.2 h
  generalize hD : stop isL l a = D at *
  have HD : Hid _ := hD
  have HW : Hid _ := hwa
  clear hD hd hwa hla
  go_enter Tryz.func112, Tryz.ntmps112
  go_wp2_with fail
  go_loop [6] (fun i => i = .int .i64 a) (fun _ => 0)
  case atStart => exact rfl
  case round =>
    subst hrel
    all_goals
      go_wp2_with fail
      go_loop [6] (fun i => ∃ k : Nat, a ≤ k ∧ k ≤ l.length ∧ i = .int .i64 k ∧ D = stop isL l k) (fun i => l.length - (intOf i).toNat)
      case atStart => exact ⟨a, Nat.le_refl _, by omega, rfl, HD.out.symm⟩
    all_goals
      obtain ⟨k, hak, hk, rfl, hi⟩ := hrel
      have H : Hid _ := hi
      clear hi hnd
      by_cases hlt : k < l.length
    all_goals go_wp2_with fail
    all_goals try (case roundEnd =>
        refine ⟨⟨k + 1, by omega, by omega, by go_num, ?_⟩, by simp [intOf]; omega⟩
        rw [H.out]; exact stop_step isL l k hlt (l_yes ‹_› ‹_›))
    all_goals
      have hstop : D = k := by
        rw [H.out]
        first
        | exact stop_no isL l k hlt (by first | exact l_no1 ‹_› | exact l_no2 ‹_›)
        | exact stop_end isL l k (by omega)
      subst hstop
      try (exfalso; omega)
    all_goals
      rw [cut_ex]
      refine (isKeyword_any (cut l a D) _).mono ?_
      rintro e w1 ⟨rfl, hb⟩
      obtain ⟨hc, hf⟩ := bcell hb
      have hz : w.heap.size < w1.heap.size := by have := hb.size; simp at this; omega
    all_goals
      by_cases hkw : isKw (cut l a D) = true
    all_goals
      have hbb : Below w.heap.size w w1 := ((Below.refl _ _).alloc (Nat.le_refl _) _).trans (hb.mono (by simp))
      go_wp2_with fail
    all_goals first
      | exact bodyPost_ret (v := .tuple #[.agg #[.int .u8 107, S (cut l a D), .int .i64 a], .bool true]) (by simp [results, Tryz.results112, go_sem, cut_ex, hc, hz, cell_set_same, cell_set_off, some_set]) rfl ⟨wa_some l a ⟨107, cut l a D, a⟩ (by rw [HW.out, if_pos hkw]), below_set3 hbb _ _ _⟩
      | exact bodyPost_ret (v := .tuple #[.agg #[.int .u8 111, S (cut l a D), .int .i64 a], .bool (decide ((D : Int) - a ≤ 8))]) (by simp [results, Tryz.results112, go_sem, cut_ex, hc, hz, cell_set_same, cell_set_off, some_set]) rfl ⟨wa_own l a D hkw HW.out (by omega), below_set3 hbb _ _ _⟩


theorem wa_sign (l : List UInt8) (a : Nat) (ha : a < l.length) (hd : ¬ a < stop isD l a) (hL : ¬ a < stop isL l a) : wordAt l a =
      if l[a].toNat = 60 then (if (l.getD (a + 1) 0).toNat = 61 then some ⟨115, [60, 61], a⟩ else some ⟨115, [60], a⟩)
      else if l[a].toNat = 40 ∨ l[a].toNat = 41 ∨ l[a].toNat = 59 ∨ l[a].toNat = 43 ∨ l[a].toNat = 45 ∨ l[a].toNat = 61 then some ⟨115, [l[a]], a⟩
      else none := by
  unfold wordAt; rw [if_neg hd, if_neg hL, List.getElem?_eq_getElem ha]
theorem eqn {c : UInt8} {k : Nat} (h : ((c.toNat : Int) == (k : Int)) = true) : c.toNat = k := by simp at h; omega
theorem nqn {c : UInt8} {k : Nat} (h : ((c.toNat : Int) == (k : Int)) = false) : ¬ c.toNat = k := by simp at h; omega
theorem cut_one (l : List UInt8) (a : Nat) (ha : a < l.length) : cut l a (a + 1) = [l[a]] := by
  unfold cut; rw [List.drop_eq_getElem_cons ha, show a + 1 - a = 1 from by omega]; rfl
/-- The text behind a sign of one byte. -/
def SignEq (l : List UInt8) (a : Nat) (ha : a < l.length) : Prop := wordAt l a =
      if l[a].toNat = 60 then (if (l.getD (a + 1) 0).toNat = 61 then some ⟨115, [60, 61], a⟩ else some ⟨115, [60], a⟩)
      else if l[a].toNat = 40 ∨ l[a].toNat = 41 ∨ l[a].toNat = 59 ∨ l[a].toNat = 43 ∨ l[a].toNat = 45 ∨ l[a].toNat = 61 then some ⟨115, [l[a]], a⟩
      else none
theorem wa_one (l : List UInt8) (a : Nat) (ha : a < l.length) (k : Nat) (hw : SignEq l a ha) (hk : k = 40 ∨ k = 41 ∨ k = 59 ∨ k = 43 ∨ k = 45 ∨ k = 61) (h : ((l[a].toNat : Int) == (k : Int)) = true) :
    WordAns l a (.returned (.tuple #[.agg #[.int .u8 115, S [l[a]], .int .i64 a], .bool true])) := by
  have e := eqn h
  refine wa_some l a ⟨115, [l[a]], a⟩ ?_
  rw [hw, if_neg (by omega), if_pos (by omega)]
theorem wa_le (l : List UInt8) (a : Nat) (ha : a < l.length) (hw : SignEq l a ha) (h : ((l[a].toNat : Int) == (60 : Nat)) = true) (h1 : a + 1 < l.length) (h2 : ((l[a + 1].toNat : Int) == (61 : Nat)) = true) :
    WordAns l a (.returned (.tuple #[.agg #[.int .u8 115, S [60, 61], .int .i64 a], .bool true])) := by
  refine wa_some l a ⟨115, [60, 61], a⟩ ?_
  rw [hw, if_pos (eqn h), if_pos (by rw [List.getD_eq_getElem?_getD, List.getElem?_eq_getElem h1]; exact eqn h2)]
theorem wa_lt (l : List UInt8) (a : Nat) (ha : a < l.length) (hw : SignEq l a ha) (h : ((l[a].toNat : Int) == (60 : Nat)) = true) (h1 : l.length ≤ a + 1 ∨ ∃ h1 : a + 1 < l.length, ((l[a + 1].toNat : Int) == (61 : Nat)) = false) :
    WordAns l a (.returned (.tuple #[.agg #[.int .u8 115, S [60], .int .i64 a], .bool true])) := by
  refine wa_some l a ⟨115, [60], a⟩ ?_
  rw [hw, if_pos (eqn h)]
  rcases h1 with h1 | ⟨h1, h2⟩
  · rw [if_neg (by rw [List.getD_eq_getElem?_getD, List.getElem?_eq_none h1]; decide)]
  · rw [if_neg (by rw [List.getD_eq_getElem?_getD, List.getElem?_eq_getElem h1]; exact nqn h2)]
theorem wa_no (l : List UInt8) (a : Nat) (ha : a < l.length) (hw : SignEq l a ha) (h60 : ((l[a].toNat : Int) == (60 : Nat)) = false) (h40 : ((l[a].toNat : Int) == (40 : Nat)) = false) (h41 : ((l[a].toNat : Int) == (41 : Nat)) = false)
    (h59 : ((l[a].toNat : Int) == (59 : Nat)) = false) (h43 : ((l[a].toNat : Int) == (43 : Nat)) = false) (h45 : ((l[a].toNat : Int) == (45 : Nat)) = false) (h61 : ((l[a].toNat : Int) == (61 : Nat)) = false) :
    WordAns l a (.returned (.tuple #[.agg #[.int .u8 0, S [], .int .i64 0], .bool false])) := by
  refine wa_none l a 0 [] 0 ?_
  have := nqn h60; have := nqn h40; have := nqn h41; have := nqn h59; have := nqn h43; have := nqn h45; have := nqn h61
  rw [hw, if_neg (by omega), if_neg (by omega)]
end Go.Proofs.YtfkdailfcmnjlaaGreatDoor

namespace Go.Proofs.YtfkdailfcmnjlaaGreatDoor
open Go Go.RowKit
set_option maxRecDepth 100000

set_option maxHeartbeats 1000000 in
theorem word_sign (l : List UInt8) (a : Nat) (w : World) (hl : l.length ≤ 1000) (ha : a < l.length) (hd : ¬ a < stop isD l a) (hL : ¬ a < stop isL l a) :
    Calls Tryz.prog 112 #[S l, .int .i64 a] w fun e w' => WordAns l a e ∧ Below w.heap.size w w' := by
  have hwa : Hid (SignEq l a ha) := wa_sign l a ha hd hL
  have hnd : (((ByteArray.mk l.toArray)[a]'ha).toNat : Int) < 48 ∨ 57 < (((ByteArray.mk l.toArray)[a]'ha).toNat : Int) := d_not (no_first ha hd)
  have hnl : (((ByteArray.mk l.toArray)[a]'ha).toNat : Int) < 97 ∨ 122 < (((ByteArray.mk l.toArray)[a]'ha).toNat : Int) := l_not (no_first ha hL)
  clear hd hL
  go_enter Tryz.func112, Tryz.ntmps112
  go_wp2_with fail
  go_loop [6] (fun i => i = .int .i64 a) (fun _ => 0)
  case atStart => exact rfl
  case round =>
    subst hrel
    rcases hnd with hnd | hnd
    all_goals
      go_wp2_with fail
      go_loop [6] (fun i => i = .int .i64 a) (fun _ => 0)
      case atStart => exact rfl
    all_goals
      subst hrel
      rcases hnl with hnl | hnl
    all_goals try (exfalso; omega)
    all_goals go_wp2_with fail
    all_goals first
      | exact bodyPost_ret (v := .tuple #[.agg #[.int .u8 115, S [l[a]], .int .i64 a], .bool true]) (by simp [results, Tryz.results112, go_sem, cut_ex, cut_one l a ha]) rfl ⟨wa_one l a ha 40 hwa.out (by decide) ‹_›, (Below.refl _ _).alloc (Nat.le_refl _) _⟩
      | exact bodyPost_ret (v := .tuple #[.agg #[.int .u8 115, S [l[a]], .int .i64 a], .bool true]) (by simp [results, Tryz.results112, go_sem, cut_ex, cut_one l a ha]) rfl ⟨wa_one l a ha 41 hwa.out (by decide) ‹_›, (Below.refl _ _).alloc (Nat.le_refl _) _⟩
      | exact bodyPost_ret (v := .tuple #[.agg #[.int .u8 115, S [l[a]], .int .i64 a], .bool true]) (by simp [results, Tryz.results112, go_sem, cut_ex, cut_one l a ha]) rfl ⟨wa_one l a ha 59 hwa.out (by decide) ‹_›, (Below.refl _ _).alloc (Nat.le_refl _) _⟩
      | exact bodyPost_ret (v := .tuple #[.agg #[.int .u8 115, S [l[a]], .int .i64 a], .bool true]) (by simp [results, Tryz.results112, go_sem, cut_ex, cut_one l a ha]) rfl ⟨wa_one l a ha 43 hwa.out (by decide) ‹_›, (Below.refl _ _).alloc (Nat.le_refl _) _⟩
      | exact bodyPost_ret (v := .tuple #[.agg #[.int .u8 115, S [l[a]], .int .i64 a], .bool true]) (by simp [results, Tryz.results112, go_sem, cut_ex, cut_one l a ha]) rfl ⟨wa_one l a ha 45 hwa.out (by decide) ‹_›, (Below.refl _ _).alloc (Nat.le_refl _) _⟩
      | exact bodyPost_ret (v := .tuple #[.agg #[.int .u8 115, S [l[a]], .int .i64 a], .bool true]) (by simp [results, Tryz.results112, go_sem, cut_ex, cut_one l a ha]) rfl ⟨wa_one l a ha 61 hwa.out (by decide) ‹_›, (Below.refl _ _).alloc (Nat.le_refl _) _⟩
      | exact bodyPost_ret (v := .tuple #[.agg #[.int .u8 115, S [60, 61], .int .i64 a], .bool true]) (by simp [results, Tryz.results112, go_sem]) rfl ⟨wa_le l a ha hwa.out ‹_› (by omega) ‹_›, (Below.refl _ _).alloc (Nat.le_refl _) _⟩
      | exact bodyPost_ret (v := .tuple #[.agg #[.int .u8 115, S [60], .int .i64 a], .bool true]) (by simp [results, Tryz.results112, go_sem]) rfl ⟨wa_lt l a ha hwa.out ‹_› (.inl (by omega)), (Below.refl _ _).alloc (Nat.le_refl _) _⟩
      | exact bodyPost_ret (v := .tuple #[.agg #[.int .u8 115, S [60], .int .i64 a], .bool true]) (by simp [results, Tryz.results112, go_sem]) rfl ⟨wa_lt l a ha hwa.out ‹_› (.inr ⟨by omega, ‹_›⟩), (Below.refl _ _).alloc (Nat.le_refl _) _⟩
      | exact bodyPost_ret (v := .tuple #[.agg #[.int .u8 0, S [], .int .i64 0], .bool false]) (by simp [results, Tryz.results112, go_sem]) rfl ⟨wa_no l a ha hwa.out ‹_› ‹_› ‹_› ‹_› ‹_› ‹_› ‹_›, (Below.refl _ _).alloc (Nat.le_refl _) _⟩

theorem word_any (l : List UInt8) (a : Nat) (w : World) (hl : l.length ≤ 1000) (ha : a < l.length) :
    Calls Tryz.prog 112 #[S l, .int .i64 a] w fun e w' => WordAns l a e ∧ Below w.heap.size w w' := by
  by_cases hd : a < stop isD l a
  · exact word_num l a w hl ha hd
  · by_cases hL : a < stop isL l a
    · exact word_name l a w hl ha hd hL
    · exact word_sign l a w hl ha hd hL
end Go.Proofs.YtfkdailfcmnjlaaGreatDoor

namespace Go.Proofs.YtfkdailfcmnjlaaGreatDoor
open Go Go.RowKit
set_option maxRecDepth 100000

theorem info_word : (Tryz.prog.info? 151).map (fun i => (i.zero, i.size, i.bytes)) = some (some (.agg #[.int .u8 0, .string ⟨#[]⟩, .int .i64 0]), 3, 32) := by kernel_rfl

/-- The cells of words, one behind the other. -/
def tokCells (ts : List Tok) : List Value := ts.flatMap fun t => [.int .u8 t.k, S t.text, .int .i64 t.pl]
theorem tokCells_len (ts : List Tok) : (tokCells ts).length = ts.length * 3 := by
  induction ts with
  | nil => rfl
  | cons t ts ih => simp [tokCells] at ih ⊢; omega
theorem tokCells_snoc (ts : List Tok) (t : Tok) : tokCells (ts ++ [t]) = tokCells ts ++ [.int .u8 t.k, S t.text, .int .i64 t.pl] := by simp [tokCells]

theorem cell_three_new (w : World) (a b c : Value) (t : TypeId) : ∀ j u, [a, b, c][j]? = some u → (w.alloc (.cells #[a, b, c] t)).cell? ((⟨w.heap.size, 0, none⟩ : Addr).add j) = some u := by
  intro j u hj
  match j, hj with
  | 0, hj => simp at hj; subst hj; simp [Addr.add]
  | 1, hj => simp at hj; subst hj; simp [Addr.add]
  | 2, hj => simp at hj; subst hj; simp [Addr.add]
  | j + 3, hj => simp at hj

theorem wordAt_len {l : List UInt8} {a : Nat} {t : Tok} (ha : a < l.length) (h : wordAt l a = some t) : 1 ≤ t.text.length ∧ a + t.text.length ≤ l.length ∧ t.pl = a ∧ t.k ≤ 255 := by
  unfold wordAt at h
  have h1 := stop_le isD l a (by omega)
  have h2 := stop_le isL l a (by omega)
  split at h
  · split at h
    · simp at h
    · simp at h; subst h; refine ⟨?_, ?_, rfl, by simp⟩ <;> simp only [cut_len l a _ h1] <;> omega
  · split at h
    · split at h
      · simp at h; subst h; refine ⟨?_, ?_, rfl, by simp⟩ <;> simp only [cut_len l a _ h2] <;> omega
      · split at h
        · simp at h; subst h; refine ⟨?_, ?_, rfl, by simp⟩ <;> simp only [cut_len l a _ h2] <;> omega
        · simp at h
    · rw [List.getElem?_eq_getElem ha] at h
      simp only at h
      split at h
      · split at h
        · simp at h; subst h
          rename_i h3
          have : a + 1 < l.length := by
            rcases Nat.lt_or_ge (a + 1) l.length with h4 | h4
            · exact h4
            · rw [List.getD_eq_getElem?_getD, List.getElem?_eq_none h4] at h3; simp at h3
          simp; omega
        · simp at h; subst h; simp; omega
      · split at h
        · simp at h; subst h; simp; omega
        · simp at h

/-- What 'words' answers. -/
def WordsAns (l : List UInt8) (w : World) (e : Ending) (w' : World) : Prop :=
  Below w.heap.size w w' ∧ match lex (l.length + 1) l 0 with
  | (ts, none) => ∃ g cap, e = .returned (.tuple #[.slice (some ⟨g, 0, none⟩) ts.length cap, .int .i64 (-1)]) ∧ w'.ownsRow w.heap.size 151 3 (.slice (some ⟨g, 0, none⟩) ts.length cap) ts.length (tokCells ts)
  | (_, some p) => e = .returned (.tuple #[.slice none 0 0, .int .i64 p])

theorem b_yes {c : UInt8} (h : (c.toNat : Int) = 32) : isB c = true := by unfold isB; simp; omega
theorem b_or {c : UInt8} (h : ((c.toNat : Int) == 32) = true ∨ ((c.toNat : Int) == 10) = true) : isB c = true := by unfold isB; simp at h ⊢; omega
theorem b_and {c : UInt8} (h : ((c.toNat : Int) == 32) = false ∧ ((c.toNat : Int) == 10) = false) : isB c = false := by unfold isB; simp at h ⊢; omega
theorem ownsRow_below {w w' : World} {base : Nat} {e : TypeId} {size : Nat} {v : Value} {n : Nat} {xs : List Value} (h : w.ownsRow base e size v n xs) (hb : Below w.heap.size w w') : w'.ownsRow base e size v n xs := by
  obtain ⟨h1, h2⟩ := h
  refine ⟨h1, ?_⟩
  rcases h2 with h2 | ⟨g, cap, cur, a, b, c, d⟩
  · exact .inl h2
  · refine .inr ⟨g, cap, cur, a, b, ?_, d⟩
    rw [hb.block g ?_]; exact c
    rcases Nat.lt_or_ge g w.heap.size with hlt | hge
    · exact hlt
    · rw [Array.getElem?_eq_none hge] at c; cases c
theorem cell_three_new2 (w : World) (o : Obj) (a b c : Value) (t : TypeId) : ∀ j u, [a, b, c][j]? = some u → ((w.alloc o).alloc (.cells #[a, b, c] t)).cell? ((⟨w.heap.size + 1, 0, none⟩ : Addr).add j) = some u := by
  have h := cell_three_new (w.alloc o) a b c t
  rw [World.size_alloc] at h; exact h

theorem box_far {w1 w3 : World} {base : Nat} {e : TypeId} {size : Nat} {v : Value} {n : Nat} {xs : List Value} {o1 o2 : Obj} (hown1 : w1.ownsRow base e size v n xs) (hg : ((w1.alloc o1).alloc o2).grownBy w3 v.ownBlock) (i : Nat) :
    w3.cell? ⟨w1.heap.size, i, none⟩ = (w1.alloc o1).cell? ⟨w1.heap.size, i, none⟩ := by
  rw [hg.cell_far ⟨w1.heap.size, i, none⟩ (by simp; omega) (fun h => by have := (hown1.lt _ h.symm).2; simp at this)]
  exact World.cell?_alloc_past _ _ _ (by simp)
theorem below_far {w w1 w3 : World} {e : TypeId} {size : Nat} {v : Value} {n : Nat} {xs : List Value} {o1 o2 : Obj} (hbw1 : Below w.heap.size w w1) (hown1 : w1.ownsRow w.heap.size e size v n xs) (hg : ((w1.alloc o1).alloc o2).grownBy w3 v.ownBlock) : Below w.heap.size w w3 := by
  have h0 := hbw1.size
  exact Below.grown ((hbw1.alloc (by omega) _).alloc (by simp; omega) _) hg (by simp; omega) (fun j hj => (hown1.lt _ hj).1)
theorem below_far1 {w w1 w3 : World} {e : TypeId} {size : Nat} {v : Value} {n : Nat} {xs : List Value} {o1 : Obj} (hbw1 : Below w.heap.size w w1) (hown1 : w1.ownsRow w.heap.size e size v n xs) (hg : (w1.alloc o1).grownBy w3 v.ownBlock) : Below w.heap.size w w3 := by
  have h0 := hbw1.size
  exact Below.grown (hbw1.alloc (by omega) _) hg (by simp; omega) (fun j hj => (hown1.lt _ hj).1)
theorem lex_none (l : List UInt8) (k f j : Nat) (hf : 0 < f) (hj : j < l.length) (hs : stop isB l k = j) (hw : wordAt l j = none) : lex f l k = ([], some j) := by
  obtain ⟨f, rfl⟩ : ∃ f', f = f' + 1 := ⟨f - 1, by omega⟩
  rw [lex, hs, if_neg (by omega), hw]
theorem lex_some (l : List UInt8) (k f j : Nat) (t : Tok) (hj : j < l.length) (hs : stop isB l k = j) (hw : wordAt l j = some t) : lex (f + 1) l k = (t :: (lex f l (j + t.text.length)).1, (lex f l (j + t.text.length)).2) := by
  rw [lex, hs, if_neg (by omega), hw]
theorem lex_end (l : List UInt8) (k f : Nat) (hf : 0 < f) (hs : stop isB l k = l.length) : lex f l k = ([⟨101, [], l.length⟩], none) := by
  obtain ⟨f, rfl⟩ : ∃ f', f = f' + 1 := ⟨f - 1, by omega⟩
  rw [lex, hs, if_pos (by omega)]

set_option maxHeartbeats 2000000 in
theorem words_any (l : List UInt8) (w : World) (hl : l.length ≤ 1000) :
    Calls Tryz.prog 60 #[S l] w fun e w' => WordsAns l w e w' := by
  obtain ⟨i0, hi, hz0, hz1, hz2⟩ := info_parts info_word
  go_enter Tryz.func60, Tryz.ntmps60
  go_wp2_with fail
  go_loopw [4, 5] (fun v a wr => ∃ (ts : List Tok) (k f : Nat), k ≤ l.length ∧ ts.length ≤ k ∧ a = .int .i64 k ∧ l.length - k < f ∧ Hid (lex (l.length + 1) l 0 = (ts ++ (lex f l k).1, (lex f l k).2)) ∧ wr.ownsRow w.heap.size 151 3 v ts.length (tokCells ts) ∧ Below w.heap.size w wr) (fun _ a _ => l.length - (intOf a).toNat)
  case atStart => exact ⟨[], 0, l.length + 1, by omega, by simp, rfl, by omega, rfl, World.ownsRow_nil _ _ _ _, Below.refl _ _⟩
  case round =>
    obtain ⟨ts, k, f, hk, htk, rfl, hf, HS, hown, hbw⟩ := hrel
    go_wp2_with fail
    go_loop [5] (fun i => ∃ j : Nat, k ≤ j ∧ j ≤ l.length ∧ i = .int .i64 j ∧ Hid (stop isB l k = stop isB l j)) (fun i => l.length - (intOf i).toNat)
    case atStart => exact ⟨k, by omega, by omega, rfl, rfl⟩
    case round =>
      obtain ⟨j, hkj, hj, rfl, HB⟩ := hrel
      by_cases hlt : j < l.length
      · cases hwt : wordAt l j with
        | none =>
          have HW : Hid _ := hwt
          clear hwt
          go_wp2_with fail
          case roundEnd =>
            refine ⟨⟨j + 1, by omega, by omega, by go_num, ?_⟩, by simp [intOf]; omega⟩
            show _ = _; rw [HB.out]; exact stop_step isB l j hlt (b_yes ‹_›)
          case roundEnd =>
            refine ⟨⟨j + 1, by omega, by omega, by go_num, ?_⟩, by simp [intOf]; omega⟩
            show _ = _; rw [HB.out]; exact stop_step isB l j hlt (b_or ‹_›)
          have hsj : Hid (stop isB l k = j) := by show _ = _; rw [HB.out]; exact stop_no isB l j hlt (b_and ‹_›)
          refine (word_any l j wr hl hlt).mono ?_
          rintro e w1 ⟨ha, hb⟩
          unfold WordAns at ha
          rw [HW.out] at ha
          obtain ⟨k', s', p', rfl⟩ := ha
          go_wp2_with fail
          go_ret2
          refine ⟨(hbw.trans (hb.mono hbw.size)).alloc (by have := hb.size; have := hbw.size; omega) _, ?_⟩
          rw [HS.out, lex_none l k f j (by omega) hlt hsj.out HW.out]
          rfl
        | some t =>
          have HW : Hid _ := hwt
          obtain ⟨ht1, ht2, ht3, ht4⟩ := wordAt_len hlt hwt
          have H3 : Hid _ := ht3
          clear ht3
          clear hwt
          go_wp2_with fail
          case roundEnd =>
            refine ⟨⟨j + 1, by omega, by omega, by go_num, ?_⟩, by simp [intOf]; omega⟩
            show _ = _; rw [HB.out]; exact stop_step isB l j hlt (b_yes ‹_›)
          case roundEnd =>
            refine ⟨⟨j + 1, by omega, by omega, by go_num, ?_⟩, by simp [intOf]; omega⟩
            show _ = _; rw [HB.out]; exact stop_step isB l j hlt (b_or ‹_›)
          have hsj : Hid (stop isB l k = j) := by show _ = _; rw [HB.out]; exact stop_no isB l j hlt (b_and ‹_›)
          refine (word_any l j wr hl hlt).mono ?_
          rintro e w1 ⟨ha, hb⟩
          unfold WordAns at ha
          rw [HW.out] at ha
          subst ha
          unfold tokV
          have hbw1 : Below w.heap.size w w1 := hbw.trans (hb.mono hbw.size)
          have hown1 := ownsRow_below hown hb
          have hs1 := hb.size
          have hs0 := hbw.size
          go_wp2_with (
            at_builtin
            go_must (refine wpList_append_lies _ (by rfl) _ _ 144 (by rfl) w.heap.size 151 i0 (.agg #[.int .u8 0, .string ⟨#[]⟩, .int .i64 0]) 3 32 Tryz.underlying144 hi hz0 hz1 hz2 (by rfl) (by decide) _ _ _ (by rfl) ((hown1.alloc _).alloc _) ⟨w1.heap.size + 1, 0, none⟩ 1 1 [.int .u8 t.k, S t.text, .int .i64 t.pl] (by rfl) (by rfl) (cell_three_new2 _ _ _ _ _ _) (fun x hx => by simp at hx; rcases hx with rfl | rfl | rfl <;> rfl) (by decide) (by unfold maxLen; omega) (by omega) (by simp; omega) _ rfl ?_)
            intro g cap w3 hown3 hgrow3 hat hlt3
            have hc1 := box_far hown1 hgrow3 1
            have hbw3 := below_far hbw1 hown1 hgrow3
            clear hgrow3 hat)
          go_roundw
          case rel =>
            obtain ⟨f, rfl⟩ : ∃ f', f = f' + 1 := ⟨f - 1, by omega⟩
            refine ⟨ts ++ [t], j + t.text.length, f, ht2, by simp; omega, by go_num, by omega, ?_, ?_, hbw3⟩
            · show _ = _
              rw [HS.out, lex_some l k f j t hlt hsj.out HW.out]; simp
            · rw [tokCells_snoc]; simpa using hown3
          case measure => simp [intOf]; omega
      · have hjl : j = l.length := by omega
        subst hjl
        go_wp2_with (
          at_builtin
          go_must (refine wpList_append_lies _ (by rfl) _ _ 144 (by rfl) w.heap.size 151 i0 (.agg #[.int .u8 0, .string ⟨#[]⟩, .int .i64 0]) 3 32 Tryz.underlying144 hi hz0 hz1 hz2 (by rfl) (by decide) _ _ _ (by rfl) (hown.alloc _) ⟨wr.heap.size, 0, none⟩ 1 1 [.int .u8 101, S [], .int .i64 l.length] (by rfl) (by rfl) (cell_three_new _ _ _ _ _) (fun x hx => by simp at hx; rcases hx with rfl | rfl | rfl <;> rfl) (by decide) (by unfold maxLen; omega) (by omega) (by simp; have := hbw.size; omega) _ rfl ?_)
          intro g cap w3 hown3 hgrow3 hat hlt3)
        go_ret2
        refine ⟨below_far1 hbw hown hgrow3, ?_⟩
        rw [HS.out, lex_end l k f (by omega) (by rw [HB.out]; exact stop_end isB l _ (by omega))]
        exact ⟨g, cap, by simp, by rw [tokCells_snoc]; simpa using hown3⟩
end Go.Proofs.YtfkdailfcmnjlaaGreatDoor

namespace Go.Proofs.YtfkdailfcmnjlaaGreatDoor
open Go Go.RowKit
set_option maxRecDepth 100000
attribute [local go_sem ↓] Go.wp_at_zero Go.wp_at_succ

/-- Is the next word this keyword or sign? -/
def seesB (bad : Bool) (t : Tok) (s : List UInt8) : Bool := !bad && isW t s

set_option maxHeartbeats 2000000 in
theorem sees_raw (rb gl cl n i : Nat) (t : Tok) (bad : Bool) (s : List UInt8) (w : World) (hn : n ≤ 2000) (hin : i < n)
    (h0 : w.cell? ⟨rb, 0, none⟩ = some (.slice (some ⟨gl, 0, none⟩) n cl)) (h1 : w.cell? ⟨rb, 1, none⟩ = some (.int .i64 i)) (h3 : w.cell? ⟨rb, 3, none⟩ = some (.bool bad))
    (k0 : w.cell? ⟨gl, i * 3, none⟩ = some (.int .u8 t.k)) (k1 : w.cell? ⟨gl, i * 3 + 1, none⟩ = some (S t.text)) (k2 : w.cell? ⟨gl, i * 3 + 2, none⟩ = some (.int .i64 t.pl)) :
    Calls Tryz.prog 113 #[.pointer (some ⟨rb, 0, none⟩), S s] w fun e w' => e = .returned (.bool (seesB bad t s)) ∧ Below w.heap.size w w' := by
  have b1 : (0 : Int) ≤ (i : Int) := by omega
  have b2 : (i : Int) < (n : Int) := by omega
  have n0 := World.new_ne w _ h0
  have n1 := World.new_ne w _ h1
  have n3 := World.new_ne w _ h3
  have m0 := World.new_ne w _ k0
  have m1 := World.new_ne w _ k1
  have m2 := World.new_ne w _ k2
  go_enter Tryz.func113, Tryz.ntmps113
  go_wp2_with fail
  go_region_held (fun w' => w'.cell? ⟨rb, 0, none⟩ = some (.slice (some ⟨gl, 0, none⟩) n cl) ∧ w'.cell? ⟨rb, 1, none⟩ = some (.int .i64 i) ∧ w'.cell? ⟨rb, 3, none⟩ = some (.bool bad) ∧ w'.cell? ⟨gl, i * 3, none⟩ = some (.int .u8 t.k) ∧ w'.cell? ⟨gl, i * 3 + 1, none⟩ = some (S t.text) ∧ w'.cell? ⟨gl, i * 3 + 2, none⟩ = some (.int .i64 t.pl)) (go_keep) (fail)
  cases bad
  all_goals go_wp2
  all_goals go_ret
  all_goals exact ⟨ret_bool (by simp [seesB, isW]; try omega), ((Below.refl _ _).alloc (Nat.le_refl _) _).drew⟩

/-- A part of a condition: its word, the places of the parts under it, its number; and the list of places as it lies in memory. -/
structure PartS where
  tok : Tok
  subs : List Nat
  n : Int
  sv : Value

def partCells (ps : List PartS) : List Value := ps.flatMap fun p => [.int .u8 p.tok.k, S p.tok.text, .int .i64 p.tok.pl, p.sv, .int .i64 p.n]
theorem partCells_len (ps : List PartS) : (partCells ps).length = ps.length * 5 := by
  induction ps with
  | nil => rfl
  | cons t ts ih => simp [partCells] at ih ⊢; omega
theorem partCells_snoc (ps : List PartS) (p : PartS) : partCells (ps ++ [p]) = partCells ps ++ [.int .u8 p.tok.k, S p.tok.text, .int .i64 p.tok.pl, p.sv, .int .i64 p.n] := by simp [partCells]

def intRow (l : List Nat) : Array Value := (l.map fun x : Nat => Value.int .i64 (x : Int)).toArray

/-- The list of places lies in memory. -/
def SubsOK (w : World) (p : PartS) : Prop := (p.subs = [] ∧ p.sv = .slice none 0 0) ∨ ∃ sb, p.sv = .slice (some ⟨sb, 0, none⟩) p.subs.length p.subs.length ∧ w.heap[sb]? = some (.cells (intRow p.subs) 3 (0, 0))

/-- The reader's state. -/
structure St where
  i : Nat
  pv : Value
  ps : List PartS
  bad : Bool


/-- The reader in memory. -/
structure RS (B rb gl cl : Nat) (ts : List Tok) (s : St) (w : World) : Prop where
  rd : w.heap[rb]? = some (.cells #[.slice (some ⟨gl, 0, none⟩) ts.length cl, .int .i64 s.i, s.pv, .bool s.bad] 149 (0, 0))
  words : w.ownsRow B 151 3 (.slice (some ⟨gl, 0, none⟩) ts.length cl) ts.length (tokCells ts)
  parts : w.ownsRow B 169 5 s.pv s.ps.length (partCells s.ps)
  subs : ∀ p ∈ s.ps, SubsOK w p
  hb : B ≤ rb
  hi : s.i < ts.length
  hn : ts.length ≤ 1001
  fin : ∀ i, i + 1 = ts.length → (ts.getD i noTok).k = 101
  few : s.ps.length ≤ s.i

/-- What a method may have turned: the reader, its parts' row; the new row is the old one or a new block. -/
structure Fr (rb : Nat) (pv pv' : Value) (w w' : World) : Prop where
  os : w'.os = w.os
  tape : w'.tape = w.tape
  output : w'.output = w.output
  size : w.heap.size ≤ w'.heap.size
  block : ∀ k, k < w.heap.size → k ≠ rb → some k ≠ pv.ownBlock → w'.heap[k]? = w.heap[k]?
  own : pv'.ownBlock = pv.ownBlock ∨ ∃ g, pv'.ownBlock = some g ∧ w.heap.size ≤ g

theorem Fr.refl (rb : Nat) (pv : Value) (w : World) : Fr rb pv pv w w := ⟨rfl, rfl, rfl, Nat.le_refl _, fun _ _ _ _ => rfl, .inl rfl⟩
theorem Fr.trans {rb : Nat} {pv pv1 pv2 : Value} {w w1 w2 : World} (h : Fr rb pv pv1 w w1) (k : Fr rb pv1 pv2 w1 w2) : Fr rb pv pv2 w w2 := by
  refine ⟨k.os.trans h.os, k.tape.trans h.tape, k.output.trans h.output, Nat.le_trans h.size k.size, ?_, ?_⟩
  · intro i hi h1 h2
    rw [k.block i (Nat.lt_of_lt_of_le hi h.size) h1 ?_, h.block i hi h1 h2]
    rcases h.own with e | ⟨g, e, hg⟩
    · rw [e]; exact h2
    · rw [e]; intro hh; simp at hh; omega
  · rcases k.own with e | ⟨g, e, hg⟩
    · rw [e]; exact h.own
    · exact .inr ⟨g, e, Nat.le_trans h.size hg⟩
theorem Fr.of_below {rb : Nat} {pv : Value} {w w' : World} (h : Below w.heap.size w w') : Fr rb pv pv w w' :=
  ⟨h.os, h.tape, h.output, h.size, fun k hk _ _ => h.block k hk, .inl rfl⟩
theorem Fr.set {rb : Nat} {pv pv' : Value} {w w' : World} (h : Fr rb pv pv' w w') (hr : rb < w.heap.size) (i : Nat) (v : Value) : Fr rb pv pv' w (w'.setCell ⟨rb, i, none⟩ v) :=
  ⟨h.os, h.tape, h.output, by simpa using h.size, fun k hk h1 h2 => by rw [Below.heap_setCell _ _ _ _ (by exact h1)]; exact h.block k hk h1 h2, h.own⟩

theorem lt_of_get {w : World} {k : Nat} {o : Obj} (h : w.heap[k]? = some o) : k < w.heap.size := by
  rcases Nat.lt_or_ge k w.heap.size with hlt | hge
  · exact hlt
  · rw [Array.getElem?_eq_none hge] at h; cases h

theorem ownsRow_of_block {w w' : World} {base : Nat} {e : TypeId} {size : Nat} {v : Value} {n : Nat} {xs : List Value} (h : w.ownsRow base e size v n xs) (hb : ∀ k, v.ownBlock = some k → w'.heap[k]? = w.heap[k]?) : w'.ownsRow base e size v n xs := by
  obtain ⟨h1, h2⟩ := h
  refine ⟨h1, ?_⟩
  rcases h2 with h2 | ⟨g, cap, cur, a, b, c, d⟩
  · exact .inl h2
  · exact .inr ⟨g, cap, cur, a, b, by rw [hb g (by rw [a]; rfl)]; exact c, d⟩

theorem ownsRow_type {w : World} {base : Nat} {e : TypeId} {size : Nat} {v : Value} {n : Nat} {xs : List Value} (h : w.ownsRow base e size v n xs) {k : Nat} (hk : v.ownBlock = some k) : ∃ cs, w.heap[k]? = some (.cells cs e (0, 0)) := by
  rcases h.2 with ⟨h2, _⟩ | ⟨g, cap, cur, a, b, c, d⟩
  · rw [h2] at hk; cases hk
  · rw [a] at hk; simp [Value.ownBlock] at hk; subst hk; exact ⟨cur, c⟩

theorem RS.below {B rb gl cl : Nat} {ts : List Tok} {s : St} {w w' : World} (h : RS B rb gl cl ts s w) (hb : Below w.heap.size w w') : RS B rb gl cl ts s w' := by
  refine ⟨?_, ownsRow_below h.words hb, ownsRow_below h.parts hb, ?_, h.hb, h.hi, h.hn, h.fin, h.few⟩
  · rw [hb.block rb (lt_of_get h.rd)]; exact h.rd
  · intro p hp
    rcases h.subs p hp with e | ⟨sb, e, hh⟩
    · exact .inl e
    · exact .inr ⟨sb, e, by rw [hb.block sb (lt_of_get hh)]; exact hh⟩

/-- A store into the reader's own cells. -/
theorem RS.set {B rb gl cl : Nat} {ts : List Tok} {s : St} {w : World} (h : RS B rb gl cl ts s w) (j : Nat) (v : Value) (s' : St)
    (he : (#[.slice (some ⟨gl, 0, none⟩) ts.length cl, .int .i64 s.i, s.pv, .bool s.bad] : Array Value).setIfInBounds j v = #[.slice (some ⟨gl, 0, none⟩) ts.length cl, .int .i64 s'.i, s'.pv, .bool s'.bad])
    (hps : s'.ps = s.ps) (hpv : s'.pv = s.pv) (hi : s'.i < ts.length) (hf : s'.ps.length ≤ s'.i) : RS B rb gl cl ts s' (w.setCell ⟨rb, j, none⟩ v) := by
  have ho : ∀ k, k ≠ rb → (w.setCell ⟨rb, j, none⟩ v).heap[k]? = w.heap[k]? := fun k hk => Below.heap_setCell _ _ _ _ hk
  refine ⟨?_, ?_, ?_, ?_, h.hb, hi, h.hn, h.fin, hf⟩
  · rw [heap_setCell_same w rb j _ _ v h.rd, he]
  · refine ownsRow_of_block h.words fun k hk => ho k fun e => ?_
    subst e
    obtain ⟨cs, hc⟩ := ownsRow_type h.words hk
    rw [h.rd] at hc; simp at hc
  · rw [hps, hpv]
    refine ownsRow_of_block h.parts fun k hk => ho k fun e => ?_
    subst e
    obtain ⟨cs, hc⟩ := ownsRow_type h.parts hk
    rw [h.rd] at hc; simp at hc
  · rw [hps]
    intro p hp
    rcases h.subs p hp with e | ⟨sb, e, hh⟩
    · exact .inl e
    · refine .inr ⟨sb, e, ?_⟩
      rw [ho sb (fun e => by subst e; rw [h.rd] at hh; simp at hh)]; exact hh

theorem tokCells_at (ts : List Tok) (i : Nat) (hi : i < ts.length) : (tokCells ts)[i * 3]? = some (.int .u8 (ts.getD i noTok).k) ∧ (tokCells ts)[i * 3 + 1]? = some (S (ts.getD i noTok).text) ∧ (tokCells ts)[i * 3 + 2]? = some (.int .i64 (ts.getD i noTok).pl) := by
  induction ts generalizing i with
  | nil => simp at hi
  | cons t ts ih =>
    cases i with
    | zero => simp [tokCells]
    | succ i =>
      have := ih i (by simpa using hi)
      have e : tokCells (t :: ts) = [.int .u8 t.k, S t.text, .int .i64 t.pl] ++ tokCells ts := rfl
      rw [e, show (i + 1) * 3 = i * 3 + 1 + 1 + 1 from by omega, show i * 3 + 1 + 1 + 1 + 1 = i * 3 + 1 + 1 + 1 + 1 from rfl, show i * 3 + 1 + 1 + 1 + 2 = i * 3 + 2 + 1 + 1 + 1 from by omega]
      simpa using this

theorem RS.word {B rb gl cl : Nat} {ts : List Tok} {s : St} {w : World} (h : RS B rb gl cl ts s w) (i : Nat) (hi : i < ts.length) :
    w.cell? ⟨gl, i * 3, none⟩ = some (.int .u8 (ts.getD i noTok).k) ∧ w.cell? ⟨gl, i * 3 + 1, none⟩ = some (S (ts.getD i noTok).text) ∧ w.cell? ⟨gl, i * 3 + 2, none⟩ = some (.int .i64 (ts.getD i noTok).pl) := by
  have hc := h.words.cells (g := gl) rfl
  obtain ⟨a, b, c⟩ := tokCells_at ts i hi
  have ha : ∀ j, (⟨gl, 0, none⟩ : Addr).add j = ⟨gl, j, none⟩ := fun j => by unfold Addr.add; split <;> simp_all
  have h0 := hc _ _ a; have h1 := hc _ _ b; have h2 := hc _ _ c
  rw [ha] at h0 h1 h2
  exact ⟨h0, h1, h2⟩

theorem RS.cells {B rb gl cl : Nat} {ts : List Tok} {s : St} {w : World} (h : RS B rb gl cl ts s w) :
    w.cell? ⟨rb, 0, none⟩ = some (.slice (some ⟨gl, 0, none⟩) ts.length cl) ∧ w.cell? ⟨rb, 1, none⟩ = some (.int .i64 s.i) ∧ w.cell? ⟨rb, 2, none⟩ = some s.pv ∧ w.cell? ⟨rb, 3, none⟩ = some (.bool s.bad) := by
  have hc := fun j => cell_of_row w rb j _ _ _ h.rd
  exact ⟨hc 0, hc 1, hc 2, hc 3⟩
theorem RS.free {B rb gl cl : Nat} {ts : List Tok} {s : St} {w : World} (h : RS B rb gl cl ts s w) (j : Nat) : w.frozen? ⟨rb, j, none⟩ = false := by
  simp [World.frozen?, h.rd]


theorem sees_any {B rb gl cl : Nat} {ts : List Tok} {s : St} {w : World} (h : RS B rb gl cl ts s w) (x : List UInt8) :
    Calls Tryz.prog 113 #[.pointer (some ⟨rb, 0, none⟩), S x] w fun e w' => e = .returned (.bool (seesB s.bad (tokAt ts s.i) x)) ∧ Below w.heap.size w w' := by
  obtain ⟨c0, c1, _, c3⟩ := h.cells
  obtain ⟨k0, k1, k2⟩ := h.word s.i h.hi
  exact sees_raw rb gl cl ts.length s.i (tokAt ts s.i) s.bad x w (by have := h.hn; omega) h.hi c0 c1 c3 k0 k1 k2
end Go.Proofs.YtfkdailfcmnjlaaGreatDoor
