/-
  Plain Lean functions that say what the words of a policy's text are; nothing of the program is in this text. A plain reader of conditions: by levels of the grammar, with a number that bounds the calls. A plain reader of items and of whole texts. What is asked of a policy that was read: how much there is, names, types; plain Lean functions. What the document's reading of a whole text answers: plain Lean functions. What the plain reader keeps: it goes forward, its parts stand one behind the other, it ends.
-/
set_option linter.unusedVariables false
set_option linter.unusedSimpArgs false
namespace Go.Proofs.YtfkdailfcmnjlaaGreatDoor

/-- Where a run of bytes of one kind ends that begins at a place. -/
def stop (p : UInt8 → Bool) (l : List UInt8) (k : Nat) : Nat := k + ((l.drop k).takeWhile p).length

theorem stop_step (p : UInt8 → Bool) (l : List UInt8) (k : Nat) (h : k < l.length) (hp : p l[k] = true) : stop p l k = stop p l (k + 1) := by
  unfold stop
  rw [List.drop_eq_getElem_cons h, List.takeWhile_cons_of_pos hp]
  simp; omega
theorem stop_no (p : UInt8 → Bool) (l : List UInt8) (k : Nat) (h : k < l.length) (hp : p l[k] = false) : stop p l k = k := by
  unfold stop
  rw [List.drop_eq_getElem_cons h, List.takeWhile_cons_of_neg (by simp [hp])]
  simp
theorem stop_end (p : UInt8 → Bool) (l : List UInt8) (k : Nat) (h : l.length ≤ k) : stop p l k = k := by
  unfold stop
  rw [List.drop_of_length_le h]; simp
theorem stop_ge (p : UInt8 → Bool) (l : List UInt8) (k : Nat) : k ≤ stop p l k := by unfold stop; omega
theorem stop_le (p : UInt8 → Bool) (l : List UInt8) (k : Nat) (h : k ≤ l.length) : stop p l k ≤ l.length := by
  unfold stop
  have h1 : ((l.drop k).takeWhile p).length ≤ (l.drop k).length := (List.takeWhile_sublist p).length_le
  rw [List.length_drop] at h1; omega

def isD (c : UInt8) : Bool := decide (48 ≤ c.toNat) && decide (c.toNat ≤ 57)
def isL (c : UInt8) : Bool := decide (97 ≤ c.toNat) && decide (c.toNat ≤ 122)
def isB (c : UInt8) : Bool := c.toNat == 32 || c.toNat == 10
def isZ (c : UInt8) : Bool := c.toNat == 48

/-- The bytes from a place up to another. -/
def cut (l : List UInt8) (a b : Nat) : List UInt8 := (l.drop a).take (b - a)

/-- The number that digits tell. -/
def decVal (l : List UInt8) : Nat := l.foldl (fun n c => n * 10 + (c.toNat - 48)) 0

/-- The place of a string in a list, or -1. -/
def idx (l : List (List UInt8)) (s : List UInt8) : Int := match l with
  | [] => -1
  | x :: r => if x == s then 0 else (if idx r s < 0 then -1 else idx r s + 1)

theorem idx_ge (l : List (List UInt8)) (s : List UInt8) : -1 ≤ idx l s := by
  induction l with
  | nil => simp [idx]
  | cons x r ih => unfold idx; split; omega; split <;> omega

theorem idx_drop (l : List (List UInt8)) (s : List UInt8) (k : Nat) (hk : k < l.length) : idx (l.drop k) s = if l[k] == s then 0 else (if idx (l.drop (k+1)) s < 0 then -1 else idx (l.drop (k+1)) s + 1) := by
  rw [List.drop_eq_getElem_cons hk, idx]

def kMembers : List (List UInt8) := [[110, 111, 110, 101], [105, 110, 118, 105, 116, 101], [106, 111, 105, 110], [108, 101, 97, 118, 101], [98, 97, 110]]
def kFields : List (List UInt8) := [[108, 101, 118, 101, 108], [114, 97, 110, 107], [110, 101, 101, 100], [119, 104, 101, 110], [115, 101, 110, 100, 101, 114], [116, 97, 114, 103, 101, 116], [119, 97, 110, 116, 115], [115, 101, 108, 102], [111, 112, 101, 110]]
def kOthers : List (List UInt8) := [[108, 101, 116], [97, 108, 108, 111, 119], [100, 101, 110, 121], [105, 102], [116, 104, 101, 110], [101, 108, 115, 101], [111, 114], [97, 110, 100], [110, 111, 116], [116, 114, 117, 101], [102, 97, 108, 115, 101]]

/-- Is a name a keyword? -/
def isKw (s : List UInt8) : Bool := decide (0 ≤ idx kMembers s) || decide (0 ≤ idx kFields s) || decide (0 ≤ idx kOthers s)

/-- Is a number too great? -/
def big (s : List UInt8) : Bool := decide (9223372036854775807 < decVal s)

/-- A word: its kind (110 a number, 111 an own name, 107 a keyword, 115 a sign, 101 the end), its text, its place. -/
structure Tok where
  k : Nat
  text : List UInt8
  pl : Nat

/-- The word that begins at a place. -/
def wordAt (l : List UInt8) (a : Nat) : Option Tok :=
  if a < stop isD l a then (if big (cut l a (stop isD l a)) then none else some ⟨110, cut l a (stop isD l a), a⟩)
  else if a < stop isL l a then
    (if isKw (cut l a (stop isL l a)) then some ⟨107, cut l a (stop isL l a), a⟩
     else if stop isL l a - a ≤ 8 then some ⟨111, cut l a (stop isL l a), a⟩ else none)
  else match l[a]? with
    | none => none
    | some c =>
      if c.toNat = 60 then (if (l.getD (a + 1) 0).toNat = 61 then some ⟨115, [60, 61], a⟩ else some ⟨115, [60], a⟩)
      else if c.toNat = 40 ∨ c.toNat = 41 ∨ c.toNat = 59 ∨ c.toNat = 43 ∨ c.toNat = 45 ∨ c.toNat = 61 then some ⟨115, [c], a⟩
      else none

/-- The words from a place on; or the place at which none begins. -/
def lex : Nat → List UInt8 → Nat → List Tok × Option Nat
  | 0, _, _ => ([], none)
  | f + 1, l, a =>
    if l.length ≤ stop isB l a then ([⟨101, [], l.length⟩], none)
    else match wordAt l (stop isB l a) with
      | none => ([], some (stop isB l a))
      | some t => (t :: (lex f l (stop isB l a + t.text.length)).1, (lex f l (stop isB l a + t.text.length)).2)
end Go.Proofs.YtfkdailfcmnjlaaGreatDoor

namespace Go.Proofs.YtfkdailfcmnjlaaGreatDoor

/-- A part of a condition: its word, the places of the parts under it. -/
structure Pt where
  tok : Tok
  subs : List Nat

/-- What reading answers: is it well; the next word's place (or the place of the word at which it fails); the parts; the uppermost one. -/
structure Rd where
  ok : Bool
  i : Nat
  L : List Pt
  top : Nat

def noTok : Tok := ⟨0, [], 0⟩
def tokAt (ts : List Tok) (i : Nat) : Tok := ts.getD i noTok

/-- Is a word this keyword or sign? -/
def isW (t : Tok) (x : List UInt8) : Bool := (t.k == 107 || t.k == 115) && t.text == x

def wIf : List UInt8 := [105, 102]
def wThen : List UInt8 := [116, 104, 101, 110]
def wElse : List UInt8 := [101, 108, 115, 101]
def wNot : List UInt8 := [110, 111, 116]
def wTrue : List UInt8 := [116, 114, 117, 101]
def wFalse : List UInt8 := [102, 97, 108, 115, 101]
def wLet : List UInt8 := [108, 101, 116]
def wAllow : List UInt8 := [97, 108, 108, 111, 119]
def wDeny : List UInt8 := [100, 101, 110, 121]

def signsOf (n : Nat) : List (List UInt8) := if n = 0 then [[111, 114]] else if n = 1 then [[97, 110, 100]] else if n = 3 then [[61], [60], [60, 61]] else [[43], [45]]
/-- Does a word join two parts at a level? -/
def joins (n : Nat) (t : Tok) : Bool := decide (0 ≤ idx (signsOf n) t.text) && (t.k == 107 || t.k == 115)
/-- Can a word stand alone? -/
def alone (t : Tok) : Bool := t.k == 110 || t.k == 111 || (t.k == 107 && (decide (0 ≤ idx kMembers t.text) || decide (0 ≤ idx kFields t.text) || t.text == wTrue || t.text == wFalse))

def failAt (i : Nat) : Option Rd := some ⟨false, i, [], 0⟩
/-- One part more on top. -/
def put (r : Rd) (t : Tok) (subs : List Nat) : Rd := ⟨true, r.i, r.L ++ [⟨t, subs⟩], r.L.length⟩

/-- Go on, if it went well. -/
def andThen (o : Option Rd) (k : Rd → Option Rd) : Option Rd := match o with
  | none => none
  | some r => if r.ok then k r else some r

/-- The reader: the calls that it may make; which form (0 choice, 1 both, 2 part, 3 compared, 4 sum, 5 one, 6 condition; 10 and above: the rest of a chain, with what stands ahead of it on top); the words; the place; the parts; what stands ahead. -/
def P : Nat → Nat → List Tok → Nat → List Pt → Nat → Option Rd
  | 0, _, _, _, _, _ => none
  | f + 1, tag, ts, i, L, x =>
    if tag = 6 then
      if isW (tokAt ts i) wIf then
        andThen (P f 6 ts (i + 1) L 0) fun a =>
        if isW (tokAt ts a.i) wThen then
          andThen (P f 6 ts (a.i + 1) a.L 0) fun b =>
          if isW (tokAt ts b.i) wElse then
            andThen (P f 6 ts (b.i + 1) b.L 0) fun c => some (put c (tokAt ts i) [a.top, b.top, c.top])
          else failAt b.i
        else failAt a.i
      else P f 0 ts i L 0
    else if tag = 5 then
      if isW (tokAt ts i) [40] then
        andThen (P f 6 ts (i + 1) L 0) fun a => if isW (tokAt ts a.i) [41] then some { a with i := a.i + 1 } else failAt a.i
      else if alone (tokAt ts i) then some ⟨true, i + 1, L ++ [⟨tokAt ts i, []⟩], L.length⟩
      else failAt i
    else if tag = 2 then
      if isW (tokAt ts i) wNot then andThen (P f 2 ts (i + 1) L 0) fun a => some (put a (tokAt ts i) [a.top])
      else P f 3 ts i L 0
    else if tag < 10 then andThen (P f (tag + 1) ts i L 0) fun a => P f (10 + tag) ts a.i a.L a.top
    else
      if joins (tag - 10) (tokAt ts i) then
        andThen (P f (tag - 9) ts (i + 1) L 0) fun b =>
        if tag = 13 then some (put b (tokAt ts i) [x, b.top]) else P f tag ts b.i (b.L ++ [⟨tokAt ts i, [x, b.top]⟩]) b.L.length
      else some ⟨true, i, L, x⟩

/-- What a word counts as a number. -/
def numOf (t : Tok) : Int := if t.k = 110 then decVal t.text else 0

/-- A number's word is digits, and not too great. -/
def TokOK (t : Tok) : Prop := t.text.length ≤ 1000 ∧ (t.k = 110 → (∀ c ∈ t.text, isD c = true) ∧ decVal t.text ≤ 9223372036854775807)

/-- What stands behind a call and a word that must follow it. -/
def Nx (f : Nat) (ts : List Tok) (a b : Rd) (x : List UInt8) : Prop :=
  if a.ok = true ∧ isW (tokAt ts a.i) x = true then P f 6 ts (a.i + 1) a.L 0 = some b else b.ok = false ∧ b.i = a.i

theorem if_split {f : Nat} {ts : List Tok} {i x : Nat} {L : List Pt} {r : Rd} (h : P (f + 1) 6 ts i L x = some r) (hw : isW (tokAt ts i) wIf = true) :
    ∃ a b c : Rd, P f 6 ts (i + 1) L 0 = some a ∧ Nx f ts a b wThen ∧ Nx f ts b c wElse ∧ r.ok = c.ok ∧ r.i = c.i ∧ (c.ok = true → a.ok = true ∧ b.ok = true ∧ r = put c (tokAt ts i) [a.top, b.top, c.top]) := by
  rw [P, if_pos rfl, if_pos hw] at h
  cases ha : P f 6 ts (i + 1) L 0 with
  | none => rw [ha] at h; simp [andThen] at h
  | some a =>
    rw [ha] at h
    simp only [andThen] at h
    by_cases hok : a.ok = true
    · rw [if_pos hok] at h
      by_cases ht : isW (tokAt ts a.i) wThen = true
      · rw [if_pos ht] at h
        cases hb : P f 6 ts (a.i + 1) a.L 0 with
        | none => rw [hb] at h; simp at h
        | some b =>
          rw [hb] at h
          simp only at h
          by_cases hbk : b.ok = true
          · rw [if_pos hbk] at h
            by_cases he : isW (tokAt ts b.i) wElse = true
            · rw [if_pos he] at h
              cases hc : P f 6 ts (b.i + 1) b.L 0 with
              | none => rw [hc] at h; simp at h
              | some c =>
                rw [hc] at h
                simp only at h
                refine ⟨a, b, c, rfl, ?_, ?_, ?_⟩
                · unfold Nx; rw [if_pos ⟨hok, ht⟩]; exact hb
                · unfold Nx; rw [if_pos ⟨hbk, he⟩]; exact hc
                · by_cases hck : c.ok = true
                  · rw [if_pos hck] at h; simp at h; subst h
                    exact ⟨by simp [put, hck], rfl, fun _ => ⟨hok, hbk, rfl⟩⟩
                  · rw [if_neg hck] at h; simp at h; subst h
                    exact ⟨rfl, rfl, fun e => absurd e hck⟩
            · rw [if_neg he] at h
              simp [failAt] at h; subst h
              refine ⟨a, b, ⟨false, b.i, [], 0⟩, rfl, ?_, ?_, rfl, rfl, fun e => by simp at e⟩
              · unfold Nx; rw [if_pos ⟨hok, ht⟩]; exact hb
              · unfold Nx; rw [if_neg (fun e => he e.2)]; exact ⟨rfl, rfl⟩
          · rw [if_neg hbk] at h; simp at h; subst h
            refine ⟨a, b, ⟨false, b.i, [], 0⟩, rfl, ?_, ?_, by simpa using hbk, rfl, fun e => by simp at e⟩
            · unfold Nx; rw [if_pos ⟨hok, ht⟩]; exact hb
            · unfold Nx; rw [if_neg (fun e => hbk e.1)]; exact ⟨rfl, rfl⟩
      · rw [if_neg ht] at h
        simp [failAt] at h; subst h
        refine ⟨a, ⟨false, a.i, [], 0⟩, ⟨false, a.i, [], 0⟩, rfl, ?_, ?_, rfl, rfl, fun e => by simp at e⟩
        · unfold Nx; rw [if_neg (fun e => ht e.2)]; exact ⟨rfl, rfl⟩
        · unfold Nx; rw [if_neg (fun e => by simp at e)]; exact ⟨rfl, rfl⟩
    · rw [if_neg hok] at h; simp at h; subst h
      refine ⟨a, ⟨false, a.i, [], 0⟩, ⟨false, a.i, [], 0⟩, rfl, ?_, ?_, by simpa using hok, rfl, fun e => by simp at e⟩
      · unfold Nx; rw [if_neg (fun e => hok e.1)]; exact ⟨rfl, rfl⟩
      · unfold Nx; rw [if_neg (fun e => by simp at e)]; exact ⟨rfl, rfl⟩
theorem one_open {f : Nat} {ts : List Tok} {i x : Nat} {L : List Pt} {r : Rd} (h : P (f + 1) 5 ts i L x = some r) (hw : isW (tokAt ts i) [40] = true) :
    ∃ a : Rd, P f 6 ts (i + 1) L 0 = some a ∧ ((a.ok = true ∧ isW (tokAt ts a.i) [41] = true ∧ r = { a with i := a.i + 1 }) ∨ (¬ (a.ok = true ∧ isW (tokAt ts a.i) [41] = true) ∧ r.ok = false ∧ r.i = a.i)) := by
  rw [P, if_neg (by decide), if_pos rfl, if_pos hw] at h
  cases ha : P f 6 ts (i + 1) L 0 with
  | none => rw [ha] at h; simp [andThen] at h
  | some a =>
    rw [ha] at h
    simp only [andThen] at h
    refine ⟨a, rfl, ?_⟩
    by_cases hok : a.ok = true
    · rw [if_pos hok] at h
      by_cases ht : isW (tokAt ts a.i) [41] = true
      · rw [if_pos ht] at h; simp at h; exact .inl ⟨hok, ht, h.symm⟩
      · rw [if_neg ht] at h; simp [failAt] at h; subst h; exact .inr ⟨fun e => ht e.2, rfl, rfl⟩
    · rw [if_neg hok] at h; simp at h; subst h; exact .inr ⟨fun e => hok e.1, by simpa using hok, rfl⟩
theorem one_alone {f : Nat} {ts : List Tok} {i x : Nat} {L : List Pt} {r : Rd} (h : P (f + 1) 5 ts i L x = some r) (hw : ¬ isW (tokAt ts i) [40] = true) :
    (alone (tokAt ts i) = true ∧ r = ⟨true, i + 1, L ++ [⟨tokAt ts i, []⟩], L.length⟩) ∨ (alone (tokAt ts i) = false ∧ r = ⟨false, i, [], 0⟩) := by
  rw [P, if_neg (by decide), if_pos rfl, if_neg hw] at h
  by_cases ha : alone (tokAt ts i) = true
  · rw [if_pos ha] at h; simp at h; exact .inl ⟨ha, h.symm⟩
  · rw [if_neg ha] at h; simp [failAt] at h; exact .inr ⟨by simpa using ha, h.symm⟩
theorem not_yes {f : Nat} {ts : List Tok} {i x : Nat} {L : List Pt} {r : Rd} (h : P (f + 1) 2 ts i L x = some r) (hw : isW (tokAt ts i) wNot = true) :
    ∃ a : Rd, P f 2 ts (i + 1) L 0 = some a ∧ r.ok = a.ok ∧ r.i = a.i ∧ (a.ok = true → r = put a (tokAt ts i) [a.top]) := by
  rw [P, if_neg (by decide), if_neg (by decide), if_pos rfl, if_pos hw] at h
  cases ha : P f 2 ts (i + 1) L 0 with
  | none => rw [ha] at h; simp [andThen] at h
  | some a =>
    rw [ha] at h
    simp only [andThen] at h
    refine ⟨a, rfl, ?_⟩
    by_cases hok : a.ok = true
    · rw [if_pos hok] at h; simp at h; subst h; exact ⟨by simp [put, hok], rfl, fun _ => rfl⟩
    · rw [if_neg hok] at h; simp at h; subst h; exact ⟨rfl, rfl, fun e => absurd e hok⟩
theorem not_no {f : Nat} {ts : List Tok} {i x : Nat} {L : List Pt} {r : Rd} (h : P (f + 1) 2 ts i L x = some r) (hw : ¬ isW (tokAt ts i) wNot = true) : P f 3 ts i L 0 = some r := by
  rw [P, if_neg (by decide), if_neg (by decide), if_pos rfl, if_neg hw] at h; exact h
/-- The levels that are chains. -/
def isChain (n : Nat) : Prop := n = 0 ∨ n = 1 ∨ n = 3 ∨ n = 4
theorem chain_split {f n : Nat} {ts : List Tok} {i x : Nat} {L : List Pt} {r : Rd} (hn : isChain n) (h : P (f + 1) n ts i L x = some r) :
    ∃ a : Rd, P f (n + 1) ts i L 0 = some a ∧ ((a.ok = true ∧ P f (10 + n) ts a.i a.L a.top = some r) ∨ (a.ok = false ∧ r = a)) := by
  unfold isChain at hn
  rw [P, if_neg (by omega), if_neg (by omega), if_neg (by omega), if_pos (by omega)] at h
  cases ha : P f (n + 1) ts i L 0 with
  | none => rw [ha] at h; simp [andThen] at h
  | some a =>
    rw [ha] at h
    simp only [andThen] at h
    refine ⟨a, rfl, ?_⟩
    by_cases hok : a.ok = true
    · rw [if_pos hok] at h; exact .inl ⟨hok, h⟩
    · rw [if_neg hok] at h; simp at h; exact .inr ⟨by simpa using hok, h.symm⟩
theorem loop_no {g n : Nat} {ts : List Tok} {i x : Nat} {L : List Pt} {r : Rd} (hn : isChain n) (h : P (g + 1) (10 + n) ts i L x = some r) (hj : joins n (tokAt ts i) = false) : r = ⟨true, i, L, x⟩ := by
  unfold isChain at hn
  rw [P, if_neg (by omega), if_neg (by omega), if_neg (by omega), if_neg (by omega), show 10 + n - 10 = n from by omega, if_neg (by simp [hj])] at h
  simp at h; exact h.symm
theorem loop_yes {g n : Nat} {ts : List Tok} {i x : Nat} {L : List Pt} {r : Rd} (hn : isChain n) (h : P (g + 1) (10 + n) ts i L x = some r) (hj : joins n (tokAt ts i) = true) :
    ∃ b : Rd, P g (n + 1) ts (i + 1) L 0 = some b ∧ ((b.ok = false ∧ r = b) ∨ (b.ok = true ∧ ((n = 3 ∧ r = put b (tokAt ts i) [x, b.top]) ∨ (n ≠ 3 ∧ P g (10 + n) ts b.i (b.L ++ [⟨tokAt ts i, [x, b.top]⟩]) b.L.length = some r)))) := by
  unfold isChain at hn
  rw [P, if_neg (by omega), if_neg (by omega), if_neg (by omega), if_neg (by omega), show 10 + n - 10 = n from by omega, show 10 + n - 9 = n + 1 from by omega, if_pos hj] at h
  cases hb : P g (n + 1) ts (i + 1) L 0 with
  | none => rw [hb] at h; simp [andThen] at h
  | some b =>
    rw [hb] at h
    simp only [andThen] at h
    refine ⟨b, rfl, ?_⟩
    by_cases hok : b.ok = true
    · rw [if_pos hok] at h
      by_cases h3 : n = 3
      · rw [if_pos (by omega)] at h; simp at h; exact .inr ⟨hok, .inl ⟨h3, h.symm⟩⟩
      · rw [if_neg (by omega)] at h; exact .inr ⟨hok, .inr ⟨h3, h⟩⟩
    · rw [if_neg hok] at h; simp at h; exact .inl ⟨by simpa using hok, h.symm⟩
theorem if_not {f : Nat} {ts : List Tok} {i x : Nat} {L : List Pt} {r : Rd} (h : P (f + 1) 6 ts i L x = some r) (hw : ¬ isW (tokAt ts i) wIf = true) : P f 0 ts i L 0 = some r := by
  rw [P, if_pos rfl, if_neg hw] at h; exact h
end Go.Proofs.YtfkdailfcmnjlaaGreatDoor

namespace Go.Proofs.YtfkdailfcmnjlaaGreatDoor

/-- An item: a let's name (nothing: a rule), does it allow, its uppermost part, its place, its name's, how many parts there are up to its end. -/
structure Itm where
  name : List UInt8
  allow : Bool
  top : Nat
  pl : Nat
  named : Nat
  parts : Nat

structure ItR where
  ok : Bool
  i : Nat
  L : List Pt
  it : Itm

def noItm : Itm := ⟨[], false, 0, 0, 0, 0⟩
def itFail (i : Nat) : Option ItR := some ⟨false, i, [], noItm⟩

/-- The condition of an item, and its end. -/
def itemTail (f : Nat) (ts : List Tok) (i : Nat) (L : List Pt) (x : Itm) : Option ItR := match P f 6 ts i L 0 with
  | none => none
  | some a => if a.ok then (if isW (tokAt ts a.i) [59] then some ⟨true, a.i + 1, a.L, { x with top := a.top, parts := a.L.length }⟩ else itFail a.i) else itFail a.i

def itemP (f : Nat) (ts : List Tok) (i : Nat) (L : List Pt) : Option ItR :=
  if isW (tokAt ts i) wLet then
    if (tokAt ts (i + 1)).k = 111 then
      if isW (tokAt ts (i + 2)) [61] then itemTail f ts (i + 3) L ⟨(tokAt ts (i + 1)).text, false, 0, (tokAt ts i).pl, (tokAt ts (i + 1)).pl, 0⟩ else itFail (i + 2)
    else itFail (i + 1)
  else if isW (tokAt ts i) wAllow || isW (tokAt ts i) wDeny then
    if isW (tokAt ts (i + 1)) wIf then itemTail f ts (i + 2) L ⟨[], (tokAt ts i).text == wAllow, 0, (tokAt ts i).pl, 0, 0⟩ else itFail (i + 1)
  else itFail i
end Go.Proofs.YtfkdailfcmnjlaaGreatDoor

namespace Go.Proofs.YtfkdailfcmnjlaaGreatDoor

def noPt : Pt := ⟨noTok, []⟩

/-- The greatest of what a list's members have. -/
def foldMax (F : Nat → Nat) (l : List Nat) : Nat := l.foldl (fun m j => max m (F j)) 0
theorem foldMax_take (F : Nat → Nat) (l : List Nat) (k : Nat) (hk : k < l.length) : foldMax F (l.take (k + 1)) = max (foldMax F (l.take k)) (F l[k]) := by
  unfold foldMax
  rw [List.take_succ_eq_append_getElem hk, List.foldl_append]; rfl
theorem foldMax_le (F : Nat → Nat) (M : Nat) (h : ∀ j, F j ≤ M) (l : List Nat) : foldMax F l ≤ M := by
  have : ∀ (l : List Nat) (m : Nat), m ≤ M → l.foldl (fun m j => max m (F j)) m ≤ M := by
    intro l
    induction l with
    | nil => intro m hm; simpa using hm
    | cons x l ihl => intro m hm; rw [List.foldl_cons]; exact ihl _ (by have := h x; omega)
  exact this l 0 (Nat.zero_le _)

/-- The depth of a part; the first number bounds the calls. -/
def dep : Nat → List Pt → Nat → Nat
  | 0, _, _ => 1
  | f + 1, L, i => foldMax (dep f L) (L.getD i noPt).subs + 1

/-- The parts under a part stand ahead of it. -/
def Ahead (L : List Pt) : Prop := ∀ i, i < L.length → (L.getD i noPt).subs.length ≤ 3 ∧ ∀ j ∈ (L.getD i noPt).subs, j < i

theorem dep_bound (f : Nat) (L : List Pt) (i : Nat) : dep f L i ≤ f + 1 := by
  induction f generalizing i with
  | zero => simp [dep]
  | succ f ih =>
    rw [dep]
    have := foldMax_le (dep f L) (f + 1) ih (L.getD i noPt).subs
    omega

/-- The let that gave a name, among the first items; or -1. -/
def letIx : List Itm → List UInt8 → Nat → Int
  | [], _, _ => -1
  | _ :: _, _, 0 => -1
  | x :: r, s, k + 1 => if x.name == s then 0 else (if letIx r s k < 0 then -1 else letIx r s k + 1)

theorem letIx_ge (l : List Itm) (s : List UInt8) (k : Nat) : -1 ≤ letIx l s k := by
  induction l generalizing k with
  | nil => simp [letIx]
  | cons x r ih =>
    cases k with
    | zero => simp [letIx]
    | succ k => unfold letIx; have := ih k; split; omega; split <;> omega
theorem letIx_step (l : List Itm) (s : List UInt8) (k m : Nat) (hk : k < l.length) (hm : 0 < m) : letIx (l.drop k) s m = if l[k].name == s then 0 else (if letIx (l.drop (k + 1)) s (m - 1) < 0 then -1 else letIx (l.drop (k + 1)) s (m - 1) + 1) := by
  obtain ⟨m, rfl⟩ : ∃ m', m = m' + 1 := ⟨m - 1, by omega⟩
  rw [List.drop_eq_getElem_cons hk, letIx]; rfl
theorem letIx_zero (l : List Itm) (s : List UInt8) : letIx l s 0 = -1 := by cases l <;> rfl
theorem letIx_lt (l : List Itm) (s : List UInt8) (k : Nat) : letIx l s k < k ∧ letIx l s k < l.length := by
  induction l generalizing k with
  | nil => simp [letIx]; omega
  | cons x r ih =>
    cases k with
    | zero => simp [letIx]; omega
    | succ k => unfold letIx; have := ih k; simp only [List.length_cons]; split; omega; split <;> omega

/-- The place of the first item that is too much. -/
def manyAt (L : List Pt) : List Itm → Nat → Nat → Option Nat
  | [], _, _ => none
  | x :: r, lets, i =>
    if 10 < lets + (if x.name == [] then 0 else 1) ∨ 20 < i + 1 - (lets + (if x.name == [] then 0 else 1)) ∨ 200 < x.parts ∨ 20 < dep (x.top + 1) L x.top then some x.pl
    else manyAt L r (lets + (if x.name == [] then 0 else 1)) (i + 1)

/-- The lesser of a place and what there was. -/
def better (pl : Nat) : Option Nat → Option Nat
  | none => some pl
  | some p => if pl < p then some pl else some p
/-- One word more: is it an own name that nobody gave, and the first so far? -/
def wrongStep (xs : List Itm) (i : Nat) (t : Tok) (o : Option Nat) : Option Nat :=
  if t.k = 111 ∧ letIx xs t.text i < 0 then better t.pl o else o
/-- The first own name among some parts that nobody gave. -/
def wrongAt (xs : List Itm) (L : List Pt) (i : Nat) : Nat → Nat → Option Nat → Option Nat
  | 0, _, o => o
  | c + 1, k, o => wrongAt xs L i c (k + 1) (wrongStep xs i (L.getD k noPt).tok o)
/-- The place of the first own name that is wrong. -/
def namesAt (xs : List Itm) (L : List Pt) : List Itm → Nat → Nat → Option Nat
  | [], _, _ => none
  | x :: r, fr, i => if x.name ≠ [] ∧ 0 ≤ letIx xs x.name i then some x.named
    else (wrongAt xs L i (x.parts - fr) fr none).or (namesAt xs L r x.parts (i + 1))

/-- The type of a sign or keyword over parts of these types (110 a number, 109 a member, 116 a truth, 0 none). -/
def tySign (x s : List UInt8) : Nat :=
  if x = [43] ∨ x = [45] then (if s = [110, 110] then 110 else 0)
  else if x = [60] ∨ x = [60, 61] then (if s = [110, 110] then 116 else 0)
  else if x = [61] then (if (s.getD 0 0).toNat = (s.getD 1 0).toNat then 116 else 0)
  else if x = [111, 114] ∨ x = [97, 110, 100] then (if s = [116, 116] then 116 else 0)
  else if x = [110, 111, 116] then (if s = [116] then 116 else 0)
  else if x = [105, 102] then (if (s.getD 0 0).toNat = 116 ∧ (s.getD 1 0).toNat = (s.getD 2 0).toNat then (s.getD 1 0).toNat else 0)
  else 0

/-- The type of a part by its word and the types under it. -/
def tyCase (xs : List Itm) (its : List UInt8) (t : Tok) (s : List UInt8) : Nat :=
  if t.k = 110 then 110
  else if t.k = 111 then (its.getD (letIx xs t.text its.length).toNat 0).toNat
  else if 0 ≤ idx kFields t.text then (([110, 110, 110, 110, 109, 109, 109, 116, 116] : List UInt8).getD (idx kFields t.text).toNat 0).toNat
  else if 0 ≤ idx kMembers t.text then 109
  else if t.text = wTrue ∨ t.text = wFalse then 116
  else tySign t.text s
theorem tySign_lt (x s : List UInt8) : tySign x s < 256 := by
  have h := (s.getD 1 0).toNat_lt
  unfold tySign
  repeat' split
  all_goals omega
theorem tyCase_lt (xs : List Itm) (its : List UInt8) (t : Tok) (s : List UInt8) : tyCase xs its t s < 256 := by
  have h := tySign_lt t.text s
  unfold tyCase
  repeat' split
  all_goals first
    | omega
    | exact UInt8.toNat_lt _

/-- The type of a part, where the items ahead have these types. -/
def tyOf (xs : List Itm) (its : List UInt8) (L : List Pt) : Nat → Nat → UInt8
  | 0, _ => 0
  | f + 1, k => if ((L.getD k noPt).subs.map (tyOf xs its L f)).contains 0 then 0 else UInt8.ofNat (tyCase xs its (L.getD k noPt).tok ((L.getD k noPt).subs.map (tyOf xs its L f)))
/-- The place of the first item whose condition has not the types there must be. -/
def typesAt (xs : List Itm) (L : List Pt) : List Itm → List UInt8 → Option Nat
  | [], _ => none
  | x :: r, its =>
    if (tyOf xs its L (x.top + 1) x.top).toNat = 0 ∨ (x.name = [] ∧ (tyOf xs its L (x.top + 1) x.top).toNat ≠ 116) then some x.pl
    else typesAt xs L r (its ++ [tyOf xs its L (x.top + 1) x.top])
end Go.Proofs.YtfkdailfcmnjlaaGreatDoor

namespace Go.Proofs.YtfkdailfcmnjlaaGreatDoor

/-- What reading all items answers. -/
structure AllR where
  ok : Bool
  i : Nat
  L : List Pt
  xs : List Itm

def parseAll (F : Nat) (ts : List Tok) : Nat → Nat → List Pt → List Itm → Option AllR
  | 0, _, _, _ => none
  | g + 1, i, L, xs =>
    if (tokAt ts i).k = 101 then some ⟨true, i, L, xs⟩
    else match itemP F ts i L with
      | none => none
      | some r => if r.ok then parseAll F ts g r.i r.L (xs ++ [r.it]) else some ⟨false, r.i, [], []⟩

theorem parse_end {F g i : Nat} {ts : List Tok} {L : List Pt} {xs : List Itm} {R : AllR} (h : parseAll F ts g i L xs = some R) (hk : (tokAt ts i).k = 101) : R = ⟨true, i, L, xs⟩ := by
  cases g with
  | zero => rw [parseAll] at h; simp at h
  | succ g => rw [parseAll, if_pos hk] at h; simp at h; exact h.symm
theorem parse_step {F g i : Nat} {ts : List Tok} {L : List Pt} {xs : List Itm} {R : AllR} (h : parseAll F ts g i L xs = some R) (hk : ¬ (tokAt ts i).k = 101) :
    ∃ r g', itemP F ts i L = some r ∧ ((r.ok = true ∧ parseAll F ts g' r.i r.L (xs ++ [r.it]) = some R) ∨ (r.ok = false ∧ R = ⟨false, r.i, [], []⟩)) := by
  cases g with
  | zero => rw [parseAll] at h; simp at h
  | succ g =>
    rw [parseAll, if_neg hk] at h
    cases hr : itemP F ts i L with
    | none => rw [hr] at h; simp at h
    | some r =>
      rw [hr] at h
      simp only at h
      refine ⟨r, g, rfl, ?_⟩
      by_cases hok : r.ok = true
      · rw [if_pos hok] at h; exact .inl ⟨hok, h⟩
      · rw [if_neg hok] at h; simp at h; exact .inr ⟨by simpa using hok, h.symm⟩

/-- The error and the place of what was read. -/
def verdictOf (ts : List Tok) (R : AllR) : Nat × Nat :=
  if R.ok = false then (3, (tokAt ts R.i).pl)
  else match manyAt R.L R.xs 0 0 with
    | some p => (4, p)
    | none => match namesAt R.xs R.L R.xs 0 0 with
      | some p => (5, p)
      | none => match typesAt R.xs R.L R.xs [] with
        | some p => (6, p)
        | none => (0, 0)
end Go.Proofs.YtfkdailfcmnjlaaGreatDoor

namespace Go.Proofs.YtfkdailfcmnjlaaGreatDoor

/-- How many parts a word asks for. -/
def Arity (t : Tok) (n : Nat) : Prop := (t.k ≠ 110 → t.k ≠ 111 → t.text = [61] → 2 ≤ n) ∧ (t.k ≠ 110 → t.k ≠ 111 → t.text = [105, 102] → 3 ≤ n)

/-- From a place on the parts ask for parts from that place on, ahead of them. -/
def Inv (b : Nat) (L : List Pt) : Prop := ∀ k, b ≤ k → k < L.length → (L.getD k noPt).subs.length ≤ 3 ∧ (∀ j ∈ (L.getD k noPt).subs, b ≤ j ∧ j < k) ∧ Arity (L.getD k noPt).tok (L.getD k noPt).subs.length

theorem getD_left {L M : List Pt} {k : Nat} (h : k < L.length) : (L ++ M).getD k noPt = L.getD k noPt := by
  simp [List.getD_eq_getElem?_getD, List.getElem?_append_left h]
theorem getD_last (L : List Pt) (p : Pt) : (L ++ [p]).getD L.length noPt = p := by simp [List.getD_eq_getElem?_getD]

theorem Inv.snoc {b : Nat} {L : List Pt} (h : Inv b L) (p : Pt) (h3 : p.subs.length ≤ 3) (hs : ∀ j ∈ p.subs, b ≤ j ∧ j < L.length) (ha : Arity p.tok p.subs.length) : Inv b (L ++ [p]) := by
  intro k hb hk
  by_cases e : k < L.length
  · rw [getD_left e]; exact h k hb e
  · have : k = L.length := by simp at hk; omega
    subst this
    rw [getD_last]; exact ⟨h3, hs, ha⟩
theorem Inv.mono {b b' : Nat} {L : List Pt} (h : Inv b L) (hb : b ≤ b') (hn : L.length ≤ b') : Inv b' L := by
  intro k h1 h2; omega

theorem arity_w {t : Tok} {x : List UInt8} (h : isW t x = true) (n : Nat) (h2 : x = [61] → 2 ≤ n) (h3 : x = [105, 102] → 3 ≤ n) : Arity t n := by
  unfold isW at h; simp at h
  exact ⟨fun _ _ e => h2 (by rw [← h.2]; exact e), fun _ _ e => h3 (by rw [← h.2]; exact e)⟩
theorem arity_join {n : Nat} {t : Tok} (h : joins n t = true) : Arity t 2 := by
  refine ⟨fun _ _ _ => Nat.le_refl _, fun _ _ e => ?_⟩
  unfold joins at h; rw [e] at h
  unfold signsOf at h
  exfalso
  revert h
  by_cases h0 : n = 0
  · rw [if_pos h0]; simp [idx]
  · rw [if_neg h0]
    by_cases h1 : n = 1
    · rw [if_pos h1]; simp [idx]
    · rw [if_neg h1]
      by_cases h3 : n = 3
      · rw [if_pos h3]; simp [idx]
      · rw [if_neg h3]; simp [idx]
theorem arity_alone {t : Tok} (h : alone t = true) : Arity t 0 := by
  unfold alone at h
  refine ⟨fun h1 h2 e => ?_, fun h1 h2 e => ?_⟩
  · rw [e] at h
    have k1 : idx kMembers [61] = -1 := by decide
    have k2 : idx kFields [61] = -1 := by decide
    rw [k1, k2] at h
    simp [h1, h2, wTrue, wFalse] at h
  · rw [e] at h
    have k1 : idx kMembers [105, 102] = -1 := by decide
    have k2 : idx kFields [105, 102] = -1 := by decide
    rw [k1, k2] at h
    simp [h1, h2, wTrue, wFalse] at h

/-- What a reading that went well keeps. -/
structure Kept (b : Nat) (tag i : Nat) (L : List Pt) (r : Rd) : Prop where
  fwd : i ≤ r.i
  fwd1 : tag < 10 → i < r.i
  more : ∃ new, r.L = L ++ new
  inv : Inv b r.L
  top : b ≤ r.top ∧ r.top < r.L.length

theorem P_kept (f : Nat) : ∀ (tag : Nat) (ts : List Tok) (i : Nat) (L : List Pt) (x b : Nat) (r : Rd), P f tag ts i L x = some r → r.ok = true → b ≤ L.length → Inv b L → (10 ≤ tag → b ≤ x ∧ x < L.length) → (tag ≤ 6 ∨ tag = 10 ∨ tag = 11 ∨ tag = 13 ∨ tag = 14) → Kept b tag i L r := by
  induction f with
  | zero => intro tag ts i L x b r h; rw [P] at h; simp at h
  | succ f ih =>
    intro tag ts i L x b r h ok hb hI hx ht
    by_cases h6 : tag = 6
    · subst h6
      by_cases hw : isW (tokAt ts i) wIf = true
      · obtain ⟨ra, rb, rc, hPa, hNb, hNc, hrc, hri, hrp⟩ := if_split h hw
        rw [hrc] at ok
        obtain ⟨oka, okb, rfl⟩ := hrp ok
        have ka := ih 6 ts (i + 1) L 0 b ra hPa oka hb hI (by omega) (by omega)
        unfold Nx at hNb hNc
        have hwb : isW (tokAt ts ra.i) wThen = true := by
          cases e : isW (tokAt ts ra.i) wThen with
          | true => rfl
          | false => rw [if_neg (by simp [e])] at hNb; rw [hNb.1] at okb; simp at okb
        have hwc : isW (tokAt ts rb.i) wElse = true := by
          cases e : isW (tokAt ts rb.i) wElse with
          | true => rfl
          | false => rw [if_neg (by simp [e])] at hNc; rw [hNc.1] at ok; simp at ok
        rw [if_pos ⟨oka, hwb⟩] at hNb
        rw [if_pos ⟨okb, hwc⟩] at hNc
        obtain ⟨na, ea⟩ := ka.more
        have kb := ih 6 ts (ra.i + 1) ra.L 0 b rb hNb okb (by rw [ea]; simp; omega) ka.inv (by omega) (by omega)
        obtain ⟨nb, eb⟩ := kb.more
        have kc := ih 6 ts (rb.i + 1) rb.L 0 b rc hNc ok (by rw [eb, ea]; simp; omega) kb.inv (by omega) (by omega)
        obtain ⟨nc, ec⟩ := kc.more
        have la : ra.L.length ≤ rb.L.length := by rw [eb]; simp
        have lb : rb.L.length ≤ rc.L.length := by rw [ec]; simp
        have t1 := ka.top; have t2 := kb.top; have t3 := kc.top
        have f1 := ka.fwd; have f2 := kb.fwd; have f3 := kc.fwd
        refine ⟨by simp [put]; omega, fun _ => by simp [put]; omega, ⟨na ++ (nb ++ (nc ++ [⟨tokAt ts i, [ra.top, rb.top, rc.top]⟩])), by simp [put, ec, eb, ea]⟩, ?_, by simp [put]; omega⟩
        exact kc.inv.snoc _ (by simp) (by intro j hj; simp at hj; rcases hj with rfl | rfl | rfl <;> omega) (arity_w hw 3 (by simp [wIf]) (by simp))
      · have k := ih 0 ts i L 0 b r (if_not h hw) ok hb hI (by omega) (by omega)
        exact ⟨k.fwd, fun _ => k.fwd1 (by omega), k.more, k.inv, k.top⟩
    · by_cases h5 : tag = 5
      · subst h5
        by_cases hw : isW (tokAt ts i) [40] = true
        · obtain ⟨ra, hPa, hr⟩ := one_open h hw
          rcases hr with ⟨oka, hwa, rfl⟩ | ⟨_, hr, _⟩
          · have ka := ih 6 ts (i + 1) L 0 b ra hPa oka hb hI (by omega) (by omega)
            have f1 := ka.fwd
            exact ⟨by simp; omega, fun _ => by simp; omega, ka.more, ka.inv, ka.top⟩
          · rw [hr] at ok; simp at ok
        · rcases one_alone h hw with ⟨ha, rfl⟩ | ⟨_, rfl⟩
          · exact ⟨by simp, fun _ => by simp, ⟨_, rfl⟩, hI.snoc _ (by simp) (by simp) (by simpa using arity_alone ha), by simp; omega⟩
          · simp at ok
      · by_cases h2 : tag = 2
        · subst h2
          by_cases hw : isW (tokAt ts i) wNot = true
          · obtain ⟨ra, hPa, hra, hri, hrp⟩ := not_yes h hw
            rw [hra] at ok
            have hrp := hrp ok
            subst hrp
            have ka := ih 2 ts (i + 1) L 0 b ra hPa ok hb hI (by omega) (by omega)
            obtain ⟨na, ea⟩ := ka.more
            have t1 := ka.top; have f1 := ka.fwd
            refine ⟨by simp [put]; omega, fun _ => by simp [put]; omega, ⟨na ++ [⟨tokAt ts i, [ra.top]⟩], by simp [put, ea]⟩, ?_, by simp [put]; omega⟩
            exact ka.inv.snoc _ (by simp) (by intro j hj; simp at hj; omega) (arity_w hw 1 (by simp [wNot]) (by simp [wNot]))
          · have k := ih 3 ts i L 0 b r (not_no h hw) ok hb hI (by omega) (by omega)
            exact ⟨k.fwd, fun _ => k.fwd1 (by omega), k.more, k.inv, k.top⟩
        · by_cases h10 : tag < 10
          · rw [P, if_neg h6, if_neg h5, if_neg h2, if_pos h10] at h
            cases ha : P f (tag + 1) ts i L 0 with
            | none => rw [ha] at h; simp [andThen] at h
            | some a =>
              rw [ha] at h
              simp only [andThen] at h
              by_cases oka : a.ok = true
              · rw [if_pos oka] at h
                · have ka := ih (tag + 1) ts i L 0 b a ha oka hb hI (by omega) (by omega)
                  obtain ⟨na, ea⟩ := ka.more
                  have kb := ih (10 + tag) ts a.i a.L a.top b r h ok (by rw [ea]; simp; omega) ka.inv (fun _ => ka.top) (by omega)
                  obtain ⟨nb, eb⟩ := kb.more
                  have f1 := ka.fwd1 (by omega); have f2 := kb.fwd
                  exact ⟨by omega, fun _ => by omega, ⟨na ++ nb, by rw [eb, ea, List.append_assoc]⟩, kb.inv, kb.top⟩
              · rw [if_neg oka] at h; simp at h; subst h; exact absurd ok oka
          · rw [P, if_neg h6, if_neg h5, if_neg h2, if_neg h10] at h
            have hx' := hx (by omega)
            by_cases hj : joins (tag - 10) (tokAt ts i) = true
            · rw [if_pos hj] at h
              cases hb' : P f (tag - 9) ts (i + 1) L 0 with
              | none => rw [hb'] at h; simp [andThen] at h
              | some c =>
                rw [hb'] at h
                simp only [andThen] at h
                by_cases okc : c.ok = true
                · rw [if_pos okc] at h
                  have kc := ih (tag - 9) ts (i + 1) L 0 b c hb' okc hb hI (by omega) (by omega)
                  obtain ⟨nc, ec⟩ := kc.more
                  have lc : L.length ≤ c.L.length := by rw [ec]; simp
                  have t1 := kc.top; have f1 := kc.fwd
                  have hI2 : Inv b (c.L ++ [⟨tokAt ts i, [x, c.top]⟩]) := kc.inv.snoc _ (by simp) (by intro j hj'; simp at hj'; rcases hj' with rfl | rfl <;> omega) (by simpa using arity_join hj)
                  by_cases h13 : tag = 13
                  · rw [if_pos h13] at h; simp at h; subst h
                    exact ⟨by simp [put]; omega, fun e => by omega, ⟨nc ++ [⟨tokAt ts i, [x, c.top]⟩], by simp [put, ec]⟩, hI2, by simp [put]; omega⟩
                  · rw [if_neg h13] at h
                    have kd := ih tag ts c.i (c.L ++ [⟨tokAt ts i, [x, c.top]⟩]) c.L.length b r h ok (by simp; omega) hI2 (fun _ => by simp; omega) ht
                    obtain ⟨nd, ed⟩ := kd.more
                    have f2 := kd.fwd
                    exact ⟨by omega, fun e => by omega, ⟨nc ++ (⟨tokAt ts i, [x, c.top]⟩ :: nd), by rw [ed, ec]; simp⟩, kd.inv, kd.top⟩
                · rw [if_neg okc] at h; simp at h; subst h; exact absurd ok okc
            · rw [if_neg hj] at h
              simp at h; subst h
              exact ⟨Nat.le_refl _, fun e => by omega, ⟨[], by simp⟩, hI, hx'⟩

theorem P_fwd (f : Nat) : ∀ (tag : Nat) (ts : List Tok) (i : Nat) (L : List Pt) (x : Nat) (r : Rd), P f tag ts i L x = some r → r.ok = true → (tag ≤ 6 ∨ tag = 10 ∨ tag = 11 ∨ tag = 13 ∨ tag = 14) → i ≤ r.i ∧ (tag < 10 → i < r.i) := by
  induction f with
  | zero => intro tag ts i L x r h; rw [P] at h; simp at h
  | succ f ih =>
    intro tag ts i L x r h ok ht
    by_cases h6 : tag = 6
    · subst h6
      by_cases hw : isW (tokAt ts i) wIf = true
      · obtain ⟨ra, rb, rc, hPa, hNb, hNc, hrc, hri, hrp⟩ := if_split h hw
        rw [hrc] at ok
        obtain ⟨oka, okb, _⟩ := hrp ok
        have ka := ih 6 ts (i + 1) L 0 ra hPa oka (by omega)
        unfold Nx at hNb hNc
        have hwb : isW (tokAt ts ra.i) wThen = true := by
          cases e : isW (tokAt ts ra.i) wThen with
          | true => rfl
          | false => rw [if_neg (by simp [e])] at hNb; rw [hNb.1] at okb; simp at okb
        have hwc : isW (tokAt ts rb.i) wElse = true := by
          cases e : isW (tokAt ts rb.i) wElse with
          | true => rfl
          | false => rw [if_neg (by simp [e])] at hNc; rw [hNc.1] at ok; simp at ok
        rw [if_pos ⟨oka, hwb⟩] at hNb
        rw [if_pos ⟨okb, hwc⟩] at hNc
        have kb := ih 6 ts (ra.i + 1) ra.L 0 rb hNb okb (by omega)
        have kc := ih 6 ts (rb.i + 1) rb.L 0 rc hNc ok (by omega)
        rw [hri]; omega
      · have k := ih 0 ts i L 0 r (if_not h hw) ok (by omega)
        exact ⟨k.1, fun _ => k.2 (by omega)⟩
    · by_cases h5 : tag = 5
      · subst h5
        by_cases hw : isW (tokAt ts i) [40] = true
        · obtain ⟨ra, hPa, hr⟩ := one_open h hw
          rcases hr with ⟨oka, hwa, rfl⟩ | ⟨_, hr, _⟩
          · have ka := ih 6 ts (i + 1) L 0 ra hPa oka (by omega)
            simp; omega
          · rw [hr] at ok; simp at ok
        · rcases one_alone h hw with ⟨ha, rfl⟩ | ⟨_, rfl⟩
          · simp
          · simp at ok
      · by_cases h2 : tag = 2
        · subst h2
          by_cases hw : isW (tokAt ts i) wNot = true
          · obtain ⟨ra, hPa, hra, hri, hrp⟩ := not_yes h hw
            rw [hra] at ok
            have ka := ih 2 ts (i + 1) L 0 ra hPa ok (by omega)
            rw [hri]; omega
          · have k := ih 3 ts i L 0 r (not_no h hw) ok (by omega)
            exact ⟨k.1, fun _ => k.2 (by omega)⟩
        · by_cases h10 : tag < 10
          · rw [P, if_neg h6, if_neg h5, if_neg h2, if_pos h10] at h
            cases ha : P f (tag + 1) ts i L 0 with
            | none => rw [ha] at h; simp [andThen] at h
            | some a =>
              rw [ha] at h
              simp only [andThen] at h
              by_cases oka : a.ok = true
              · rw [if_pos oka] at h
                have ka := ih (tag + 1) ts i L 0 a ha oka (by omega)
                have kb := ih (10 + tag) ts a.i a.L a.top r h ok (by omega)
                have := ka.2 (by omega)
                omega
              · rw [if_neg oka] at h; simp at h; subst h; exact absurd ok oka
          · rw [P, if_neg h6, if_neg h5, if_neg h2, if_neg h10] at h
            by_cases hj : joins (tag - 10) (tokAt ts i) = true
            · rw [if_pos hj] at h
              cases hb' : P f (tag - 9) ts (i + 1) L 0 with
              | none => rw [hb'] at h; simp [andThen] at h
              | some c =>
                rw [hb'] at h
                simp only [andThen] at h
                by_cases okc : c.ok = true
                · rw [if_pos okc] at h
                  have kc := ih (tag - 9) ts (i + 1) L 0 c hb' okc (by omega)
                  by_cases h13 : tag = 13
                  · rw [if_pos h13] at h; simp at h; subst h
                    simp [put]; omega
                  · rw [if_neg h13] at h
                    have kd := ih tag ts c.i (c.L ++ [⟨tokAt ts i, [x, c.top]⟩]) c.L.length r h ok ht
                    omega
                · rw [if_neg okc] at h; simp at h; subst h; exact absurd ok okc
            · rw [if_neg hj] at h
              simp at h; subst h
              simp; omega

theorem in_range {ts : List Tok} {i : Nat} (h : (tokAt ts i).k ≠ 0) : i < ts.length := by
  rcases Nat.lt_or_ge i ts.length with h1 | h1
  · exact h1
  · exact absurd (by unfold tokAt; rw [List.getD_eq_getElem?_getD, List.getElem?_eq_none h1]; rfl) h
theorem isW_range {ts : List Tok} {i : Nat} {x : List UInt8} (h : isW (tokAt ts i) x = true) : i < ts.length := in_range (by unfold isW at h; simp at h; omega)
theorem joins_range {ts : List Tok} {i n : Nat} (h : joins n (tokAt ts i) = true) : i < ts.length := in_range (by unfold joins at h; simp at h; omega)

/-- How many calls a form needs at one word. -/
def wt (tag : Nat) : Nat := if tag = 6 then 8 else if tag < 6 then 7 - tag else 1

theorem P_total (f : Nat) : ∀ (tag : Nat) (ts : List Tok) (i : Nat) (L : List Pt) (x : Nat), 16 * (ts.length - i) + wt tag ≤ f → (tag ≤ 6 ∨ tag = 10 ∨ tag = 11 ∨ tag = 13 ∨ tag = 14) → ∃ r, P f tag ts i L x = some r := by
  induction f with
  | zero => intro tag ts i L x h ht; exfalso; unfold wt at h; split at h; omega; split at h <;> omega
  | succ f ih =>
    intro tag ts i L x h ht
    by_cases h6 : tag = 6
    · subst h6
      have hw6 : wt 6 = 8 := rfl
      rw [P, if_pos rfl]
      by_cases hw : isW (tokAt ts i) wIf = true
      · rw [if_pos hw]
        have hr := isW_range hw
        obtain ⟨a, ha⟩ := ih 6 ts (i + 1) L 0 (by omega) (by omega)
        rw [ha]; simp only [andThen]
        by_cases oka : a.ok = true
        · rw [if_pos oka]
          have fa := (P_fwd f 6 ts (i + 1) L 0 a ha oka (by omega)).1
          by_cases ht' : isW (tokAt ts a.i) wThen = true
          · rw [if_pos ht']
            have hr2 := isW_range ht'
            obtain ⟨c, hc⟩ := ih 6 ts (a.i + 1) a.L 0 (by omega) (by omega)
            rw [hc]; simp only
            by_cases okc : c.ok = true
            · rw [if_pos okc]
              have fc := (P_fwd f 6 ts (a.i + 1) a.L 0 c hc okc (by omega)).1
              by_cases he : isW (tokAt ts c.i) wElse = true
              · rw [if_pos he]
                have hr3 := isW_range he
                obtain ⟨d, hd⟩ := ih 6 ts (c.i + 1) c.L 0 (by omega) (by omega)
                rw [hd]; simp only
                by_cases okd : d.ok = true
                · rw [if_pos okd]; exact ⟨_, rfl⟩
                · rw [if_neg okd]; exact ⟨_, rfl⟩
              · rw [if_neg he]; exact ⟨_, rfl⟩
            · rw [if_neg okc]; exact ⟨_, rfl⟩
          · rw [if_neg ht']; exact ⟨_, rfl⟩
        · rw [if_neg oka]; exact ⟨_, rfl⟩
      · rw [if_neg hw]
        exact ih 0 ts i L 0 (by have : wt 0 = 7 := rfl; omega) (by omega)
    · by_cases h5 : tag = 5
      · subst h5
        have hw5 : wt 5 = 2 := rfl
        rw [P, if_neg h6, if_pos rfl]
        by_cases hw : isW (tokAt ts i) [40] = true
        · rw [if_pos hw]
          have hr := isW_range hw
          obtain ⟨a, ha⟩ := ih 6 ts (i + 1) L 0 (by have : wt 6 = 8 := rfl; omega) (by omega)
          rw [ha]; simp only [andThen]
          by_cases oka : a.ok = true
          · rw [if_pos oka]
            by_cases hc : isW (tokAt ts a.i) [41] = true
            · rw [if_pos hc]; exact ⟨_, rfl⟩
            · rw [if_neg hc]; exact ⟨_, rfl⟩
          · rw [if_neg oka]; exact ⟨_, rfl⟩
        · rw [if_neg hw]
          by_cases ha : alone (tokAt ts i) = true
          · rw [if_pos ha]; exact ⟨_, rfl⟩
          · rw [if_neg ha]; exact ⟨_, rfl⟩
      · by_cases h2 : tag = 2
        · subst h2
          have hw2 : wt 2 = 5 := rfl
          rw [P, if_neg h6, if_neg h5, if_pos rfl]
          by_cases hw : isW (tokAt ts i) wNot = true
          · rw [if_pos hw]
            have hr := isW_range hw
            obtain ⟨a, ha⟩ := ih 2 ts (i + 1) L 0 (by omega) (by omega)
            rw [ha]; simp only [andThen]
            by_cases oka : a.ok = true
            · rw [if_pos oka]; exact ⟨_, rfl⟩
            · rw [if_neg oka]; exact ⟨_, rfl⟩
          · rw [if_neg hw]
            exact ih 3 ts i L 0 (by have : wt 3 = 4 := rfl; omega) (by omega)
        · by_cases h10 : tag < 10
          · rw [P, if_neg h6, if_neg h5, if_neg h2, if_pos h10]
            have hwt : wt (tag + 1) + 1 ≤ wt tag ∧ 2 ≤ wt tag := by
              have e : tag = 0 ∨ tag = 1 ∨ tag = 3 ∨ tag = 4 := by omega
              rcases e with rfl | rfl | rfl | rfl <;> decide
            obtain ⟨a, ha⟩ := ih (tag + 1) ts i L 0 (by omega) (by omega)
            rw [ha]; simp only [andThen]
            by_cases oka : a.ok = true
            · rw [if_pos oka]
              have fa := (P_fwd f (tag + 1) ts i L 0 a ha oka (by omega)).2 (by omega)
              have hwl : wt (10 + tag) = 1 := by unfold wt; rw [if_neg (by omega), if_neg (by omega)]
              exact ih (10 + tag) ts a.i a.L a.top (by rw [hwl]; omega) (by omega)
            · rw [if_neg oka]; exact ⟨_, rfl⟩
          · rw [P, if_neg h6, if_neg h5, if_neg h2, if_neg h10]
            have hwl : wt tag = 1 := by unfold wt; rw [if_neg (by omega), if_neg (by omega)]
            by_cases hj : joins (tag - 10) (tokAt ts i) = true
            · rw [if_pos hj]
              have hr := joins_range hj
              have hw9 : wt (tag - 9) ≤ 7 := by unfold wt; split; omega; split <;> omega
              obtain ⟨c, hc⟩ := ih (tag - 9) ts (i + 1) L 0 (by omega) (by omega)
              rw [hc]; simp only [andThen]
              by_cases okc : c.ok = true
              · rw [if_pos okc]
                have fc := (P_fwd f (tag - 9) ts (i + 1) L 0 c hc okc (by omega)).1
                by_cases h13 : tag = 13
                · rw [if_pos h13]; exact ⟨_, rfl⟩
                · rw [if_neg h13]
                  exact ih tag ts c.i _ _ (by omega) ht
              · rw [if_neg okc]; exact ⟨_, rfl⟩
            · rw [if_neg hj]; exact ⟨_, rfl⟩
end Go.Proofs.YtfkdailfcmnjlaaGreatDoor
