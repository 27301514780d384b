/-
  Plain Lean functions that say what the words of a policy's text are; nothing of the program is in this text. The reference's small functions of lists of words answer as plain Lean functions do. Of digits: a number's text is above the greatest of 64 bits with sign just if its value is. The reference's functions that find the words of a text answer as the plain lexer does. The reference's function 'words' answers as the plain lexer does. A plain reader of conditions: by levels of the grammar, with a number that bounds the calls. The reference's reader: what its small methods do to the reader. The reference's reader: 'must' and 'adds'. The reference's reader: 'adds'. The reference's reader of conditions: what its recursive methods do, by the plain reader's calls. The reference's method 'condition' answers as the plain reader does, if what it calls does. A plain reader of items and of whole texts. The reference's method 'item' at rules. What is asked of a policy that was read: how much there is, names, types; plain Lean functions. The reference's method 'item' whole; its function 'depth'. The reference's methods 'let' and 'many'. The reference's method 'typeOf'. What the document's reading of a whole text answers: plain Lean functions. The reference's function 'read', as far as its words and items go. The reference's function 'read': its items.
-/
import Derived.Test.YtfkdailfcmnjlaaGreatDoorProg
import Derived.WalkKit
import Derived.Deep.QuietTactic
import Derived.BigQuiet
import Derived.WalkSpells
import GoSem.Op.String
import Derived.Deep.AppendLies
import Derived.Deep.RegionHeld3
import Derived.Deep.DrawnRows
import Derived.Deep.RegionHeldLaw
import Derived.Deep.RegionLaw
set_option linter.unusedVariables false
set_option linter.unusedSimpArgs false
namespace Go.Proofs.YtfkdailfcmnjlaaGreatDoor

/-- Where a run of bytes of one kind ends that begins at a place. -/
def stop (p : UInt8 → Bool) (l : List UInt8) (k : Nat) : Nat := k + ((l.drop k).takeWhile p).length

theorem stop_step (p : UInt8 → Bool) (l : List UInt8) (k : Nat) (h : k < l.length) (hp : p l[k] = true) : stop p l k = stop p l (k + 1) := by
  unfold stop
  rw [List.drop_eq_getElem_cons h, List.takeWhile_cons_of_pos hp]
  simp; omega
theorem stop_no (p : UInt8 → Bool) (l : List UInt8) (k : Nat) (h : k < l.length) (hp : p l[k] = false) : stop p l k = k := by
  unfold stop
  rw [List.drop_eq_getElem_cons h, List.takeWhile_cons_of_neg (by simp [hp])]
  simp
theorem stop_end (p : UInt8 → Bool) (l : List UInt8) (k : Nat) (h : l.length ≤ k) : stop p l k = k := by
  unfold stop
  rw [List.drop_of_length_le h]; simp
theorem stop_ge (p : UInt8 → Bool) (l : List UInt8) (k : Nat) : k ≤ stop p l k := by unfold stop; omega
theorem stop_le (p : UInt8 → Bool) (l : List UInt8) (k : Nat) (h : k ≤ l.length) : stop p l k ≤ l.length := by
  unfold stop
  have h1 : ((l.drop k).takeWhile p).length ≤ (l.drop k).length := (List.takeWhile_sublist p).length_le
  rw [List.length_drop] at h1; omega

def isD (c : UInt8) : Bool := decide (48 ≤ c.toNat) && decide (c.toNat ≤ 57)
def isL (c : UInt8) : Bool := decide (97 ≤ c.toNat) && decide (c.toNat ≤ 122)
def isB (c : UInt8) : Bool := c.toNat == 32 || c.toNat == 10
/-- The bytes from a place up to another. -/
def cut (l : List UInt8) (a b : Nat) : List UInt8 := (l.drop a).take (b - a)

/-- The number that digits tell. -/
def decVal (l : List UInt8) : Nat := l.foldl (fun n c => n * 10 + (c.toNat - 48)) 0

/-- The place of a string in a list, or -1. -/
def idx (l : List (List UInt8)) (s : List UInt8) : Int := match l with
  | [] => -1
  | x :: r => if x == s then 0 else (if idx r s < 0 then -1 else idx r s + 1)

theorem idx_ge (l : List (List UInt8)) (s : List UInt8) : -1 ≤ idx l s := by
  induction l with
  | nil => simp [idx]
  | cons x r ih => unfold idx; split; omega; split <;> omega

theorem idx_drop (l : List (List UInt8)) (s : List UInt8) (k : Nat) (hk : k < l.length) : idx (l.drop k) s = if l[k] == s then 0 else (if idx (l.drop (k+1)) s < 0 then -1 else idx (l.drop (k+1)) s + 1) := by
  rw [List.drop_eq_getElem_cons hk, idx]

def kMembers : List (List UInt8) := [[110, 111, 110, 101], [105, 110, 118, 105, 116, 101], [106, 111, 105, 110], [108, 101, 97, 118, 101], [98, 97, 110]]
def kFields : List (List UInt8) := [[108, 101, 118, 101, 108], [114, 97, 110, 107], [110, 101, 101, 100], [119, 104, 101, 110], [115, 101, 110, 100, 101, 114], [116, 97, 114, 103, 101, 116], [119, 97, 110, 116, 115], [115, 101, 108, 102], [111, 112, 101, 110]]
def kOthers : List (List UInt8) := [[108, 101, 116], [97, 108, 108, 111, 119], [100, 101, 110, 121], [105, 102], [116, 104, 101, 110], [101, 108, 115, 101], [111, 114], [97, 110, 100], [110, 111, 116], [116, 114, 117, 101], [102, 97, 108, 115, 101]]

/-- Is a name a keyword? -/
def isKw (s : List UInt8) : Bool := decide (0 ≤ idx kMembers s) || decide (0 ≤ idx kFields s) || decide (0 ≤ idx kOthers s)

/-- Is a number too great? -/
def big (s : List UInt8) : Bool := decide (9223372036854775807 < decVal s)

/-- A word: its kind (110 a number, 111 an own name, 107 a keyword, 115 a sign, 101 the end), its text, its place. -/
structure Tok where
  k : Nat
  text : List UInt8
  pl : Nat

/-- The word that begins at a place. -/
def wordAt (l : List UInt8) (a : Nat) : Option Tok :=
  if a < stop isD l a then (if big (cut l a (stop isD l a)) then none else some ⟨110, cut l a (stop isD l a), a⟩)
  else if a < stop isL l a then
    (if isKw (cut l a (stop isL l a)) then some ⟨107, cut l a (stop isL l a), a⟩
     else if stop isL l a - a ≤ 8 then some ⟨111, cut l a (stop isL l a), a⟩ else none)
  else match l[a]? with
    | none => none
    | some c =>
      if c.toNat = 60 then (if (l.getD (a + 1) 0).toNat = 61 then some ⟨115, [60, 61], a⟩ else some ⟨115, [60], a⟩)
      else if c.toNat = 40 ∨ c.toNat = 41 ∨ c.toNat = 59 ∨ c.toNat = 43 ∨ c.toNat = 45 ∨ c.toNat = 61 then some ⟨115, [c], a⟩
      else none

/-- The words from a place on; or the place at which none begins. -/
def lex : Nat → List UInt8 → Nat → List Tok × Option Nat
  | 0, _, _ => ([], none)
  | f + 1, l, a =>
    if l.length ≤ stop isB l a then ([⟨101, [], l.length⟩], none)
    else match wordAt l (stop isB l a) with
      | none => ([], some (stop isB l a))
      | some t => (t :: (lex f l (stop isB l a + t.text.length)).1, (lex f l (stop isB l a + t.text.length)).2)
end Go.Proofs.YtfkdailfcmnjlaaGreatDoor

namespace Go.Proofs.YtfkdailfcmnjlaaGreatDoor
open Go Go.RowKit
set_option maxRecDepth 100000

abbrev S (l : List UInt8) : Value := .string ⟨l.toArray⟩

theorem ret_bool {a b : Bool} (h : a = b) : Ending.returned (.bool a) = .returned (.bool b) := by rw [h]
theorem ret_int {k : IntKind} {a b : Int} (h : a = b) : Ending.returned (.int k a) = .returned (.int k b) := by rw [h]

end Go.Proofs.YtfkdailfcmnjlaaGreatDoor

namespace Go.Proofs.YtfkdailfcmnjlaaGreatDoor
open Go

def dv (n : Nat) (l : List UInt8) : Nat := l.foldl (fun n c => n * 10 + (c.toNat - 48)) n
theorem dv_cons (n : Nat) (c : UInt8) (l : List UInt8) : dv n (c :: l) = dv (n * 10 + (c.toNat - 48)) l := by unfold dv; rw [List.foldl_cons]
theorem mul_shift (n c M : Nat) : (n * 10 + c) * M = n * (M * 10) + c * M := by
  rw [Nat.add_mul, Nat.mul_assoc, Nat.mul_comm 10 M]
theorem dv_acc (l : List UInt8) : ∀ n, dv n l = n * 10 ^ l.length + dv 0 l := by
  induction l with
  | nil => intro n; simp [dv]
  | cons c l ih =>
    intro n
    have h1 := ih (n * 10 + (c.toNat - 48))
    have h2 := ih (0 * 10 + (c.toNat - 48))
    rw [dv_cons n, dv_cons 0, h1, h2, List.length_cons, Nat.pow_succ, mul_shift, mul_shift, Nat.zero_mul, Nat.zero_add, Nat.add_assoc]
theorem isD_le {c : UInt8} (h : isD c = true) : 48 ≤ c.toNat ∧ c.toNat ≤ 57 := by simpa [isD] using h
end Go.Proofs.YtfkdailfcmnjlaaGreatDoor

namespace Go.Proofs.YtfkdailfcmnjlaaGreatDoor
open Go Go.RowKit
set_option maxRecDepth 100000

theorem binOp_string_gtr (t : TypeId) (a b : ByteArray) : binOp .gtr t (.string a) (.string b) = pure (.bool (!Op.bytesLess a.toList b.toList && !a.toList == b.toList)) := by simp [binOp, Op.stringOp]
attribute [local go_sem] binOp_string_gtr

theorem cut_ex (l : List UInt8) (a b : Nat) : (ByteArray.mk l.toArray).extract a b = ⟨(cut l a b).toArray⟩ := ByteArray.extract_mk l a b
theorem cut_len (l : List UInt8) (a b : Nat) (h : b ≤ l.length) : (cut l a b).length = b - a := by
  unfold cut; simp; omega
theorem cut_stop (p : UInt8 → Bool) (l : List UInt8) (a : Nat) : ∀ c ∈ cut l a (stop p l a), p c = true := by
  intro c hc
  unfold cut stop at hc
  have h1 : a + ((l.drop a).takeWhile p).length - a = ((l.drop a).takeWhile p).length := by omega
  rw [h1] at hc
  have h2 : (l.drop a).take ((l.drop a).takeWhile p).length = (l.drop a).takeWhile p := by
    have := (List.takeWhile_prefix (l := l.drop a) p)
    exact (List.prefix_iff_eq_take.1 this).symm
  rw [h2] at hc
  have h3 := List.all_takeWhile (p := p) (l := l.drop a)
  exact List.all_eq_true.1 h3 c hc

theorem cell_set_same (w : World) (b i : Nat) (v : Value) (h : (w.cell? ⟨b, i, none⟩).isSome = true) : (w.setCell ⟨b, i, none⟩ v).cell? ⟨b, i, none⟩ = some v := by
  cases e : w.cell? ⟨b, i, none⟩ with
  | none => rw [e] at h; simp at h
  | some u => exact World.cell?_setCell_same _ _ _ e
theorem cell_set_off (w : World) (b i j : Nat) (v : Value) (h : i ≠ j) : (w.setCell ⟨b, i, none⟩ v).cell? ⟨b, j, none⟩ = w.cell? ⟨b, j, none⟩ :=
  World.cell?_setCell_other _ _ _ _ (by simp [h])
theorem some_set (w : World) (b i j : Nat) (v : Value) (h : (w.cell? ⟨b, j, none⟩).isSome = true) : ((w.setCell ⟨b, i, none⟩ v).cell? ⟨b, j, none⟩).isSome = true := by
  by_cases e : i = j
  · subst e; rw [cell_set_same _ _ _ _ h]; rfl
  · rw [cell_set_off _ _ _ _ _ e]; exact h

end Go.Proofs.YtfkdailfcmnjlaaGreatDoor

namespace Go.Proofs.YtfkdailfcmnjlaaGreatDoor
open Go Go.RowKit
set_option maxRecDepth 100000

/-- The cells of words, one behind the other. -/
def tokCells (ts : List Tok) : List Value := ts.flatMap fun t => [.int .u8 t.k, S t.text, .int .i64 t.pl]
theorem wordAt_len {l : List UInt8} {a : Nat} {t : Tok} (ha : a < l.length) (h : wordAt l a = some t) : 1 ≤ t.text.length ∧ a + t.text.length ≤ l.length ∧ t.pl = a ∧ t.k ≤ 255 := by
  unfold wordAt at h
  have h1 := stop_le isD l a (by omega)
  have h2 := stop_le isL l a (by omega)
  split at h
  · split at h
    · simp at h
    · simp at h; subst h; refine ⟨?_, ?_, rfl, by simp⟩ <;> simp only [cut_len l a _ h1] <;> omega
  · split at h
    · split at h
      · simp at h; subst h; refine ⟨?_, ?_, rfl, by simp⟩ <;> simp only [cut_len l a _ h2] <;> omega
      · split at h
        · simp at h; subst h; refine ⟨?_, ?_, rfl, by simp⟩ <;> simp only [cut_len l a _ h2] <;> omega
        · simp at h
    · rw [List.getElem?_eq_getElem ha] at h
      simp only at h
      split at h
      · split at h
        · simp at h; subst h
          rename_i h3
          have : a + 1 < l.length := by
            rcases Nat.lt_or_ge (a + 1) l.length with h4 | h4
            · exact h4
            · rw [List.getD_eq_getElem?_getD, List.getElem?_eq_none h4] at h3; simp at h3
          simp; omega
        · simp at h; subst h; simp; omega
      · split at h
        · simp at h; subst h; simp; omega
        · simp at h

theorem b_yes {c : UInt8} (h : (c.toNat : Int) = 32) : isB c = true := by unfold isB; simp; omega
theorem b_or {c : UInt8} (h : ((c.toNat : Int) == 32) = true ∨ ((c.toNat : Int) == 10) = true) : isB c = true := by unfold isB; simp at h ⊢; omega
theorem b_and {c : UInt8} (h : ((c.toNat : Int) == 32) = false ∧ ((c.toNat : Int) == 10) = false) : isB c = false := by unfold isB; simp at h ⊢; omega
theorem ownsRow_below {w w' : World} {base : Nat} {e : TypeId} {size : Nat} {v : Value} {n : Nat} {xs : List Value} (h : w.ownsRow base e size v n xs) (hb : Below w.heap.size w w') : w'.ownsRow base e size v n xs := by
  obtain ⟨h1, h2⟩ := h
  refine ⟨h1, ?_⟩
  rcases h2 with h2 | ⟨g, cap, cur, a, b, c, d⟩
  · exact .inl h2
  · refine .inr ⟨g, cap, cur, a, b, ?_, d⟩
    rw [hb.block g ?_]; exact c
    rcases Nat.lt_or_ge g w.heap.size with hlt | hge
    · exact hlt
    · rw [Array.getElem?_eq_none hge] at c; cases c
theorem below_far {w w1 w3 : World} {e : TypeId} {size : Nat} {v : Value} {n : Nat} {xs : List Value} {o1 o2 : Obj} (hbw1 : Below w.heap.size w w1) (hown1 : w1.ownsRow w.heap.size e size v n xs) (hg : ((w1.alloc o1).alloc o2).grownBy w3 v.ownBlock) : Below w.heap.size w w3 := by
  have h0 := hbw1.size
  exact Below.grown ((hbw1.alloc (by omega) _).alloc (by simp; omega) _) hg (by simp; omega) (fun j hj => (hown1.lt _ hj).1)
theorem below_far1 {w w1 w3 : World} {e : TypeId} {size : Nat} {v : Value} {n : Nat} {xs : List Value} {o1 : Obj} (hbw1 : Below w.heap.size w w1) (hown1 : w1.ownsRow w.heap.size e size v n xs) (hg : (w1.alloc o1).grownBy w3 v.ownBlock) : Below w.heap.size w w3 := by
  have h0 := hbw1.size
  exact Below.grown (hbw1.alloc (by omega) _) hg (by simp; omega) (fun j hj => (hown1.lt _ hj).1)
theorem lex_none (l : List UInt8) (k f j : Nat) (hf : 0 < f) (hj : j < l.length) (hs : stop isB l k = j) (hw : wordAt l j = none) : lex f l k = ([], some j) := by
  obtain ⟨f, rfl⟩ : ∃ f', f = f' + 1 := ⟨f - 1, by omega⟩
  rw [lex, hs, if_neg (by omega), hw]
theorem lex_some (l : List UInt8) (k f j : Nat) (t : Tok) (hj : j < l.length) (hs : stop isB l k = j) (hw : wordAt l j = some t) : lex (f + 1) l k = (t :: (lex f l (j + t.text.length)).1, (lex f l (j + t.text.length)).2) := by
  rw [lex, hs, if_neg (by omega), hw]
theorem lex_end (l : List UInt8) (k f : Nat) (hf : 0 < f) (hs : stop isB l k = l.length) : lex f l k = ([⟨101, [], l.length⟩], none) := by
  obtain ⟨f, rfl⟩ : ∃ f', f = f' + 1 := ⟨f - 1, by omega⟩
  rw [lex, hs, if_pos (by omega)]

end Go.Proofs.YtfkdailfcmnjlaaGreatDoor

namespace Go.Proofs.YtfkdailfcmnjlaaGreatDoor

/-- A part of a condition: its word, the places of the parts under it. -/
structure Pt where
  tok : Tok
  subs : List Nat

/-- What reading answers: is it well; the next word's place (or the place of the word at which it fails); the parts; the uppermost one. -/
structure Rd where
  ok : Bool
  i : Nat
  L : List Pt
  top : Nat

def noTok : Tok := ⟨0, [], 0⟩
def tokAt (ts : List Tok) (i : Nat) : Tok := ts.getD i noTok

/-- Is a word this keyword or sign? -/
def isW (t : Tok) (x : List UInt8) : Bool := (t.k == 107 || t.k == 115) && t.text == x

def wIf : List UInt8 := [105, 102]
def wThen : List UInt8 := [116, 104, 101, 110]
def wElse : List UInt8 := [101, 108, 115, 101]
def wNot : List UInt8 := [110, 111, 116]
def wTrue : List UInt8 := [116, 114, 117, 101]
def wFalse : List UInt8 := [102, 97, 108, 115, 101]
def wLet : List UInt8 := [108, 101, 116]
def wAllow : List UInt8 := [97, 108, 108, 111, 119]
def wDeny : List UInt8 := [100, 101, 110, 121]

def signsOf (n : Nat) : List (List UInt8) := if n = 0 then [[111, 114]] else if n = 1 then [[97, 110, 100]] else if n = 3 then [[61], [60], [60, 61]] else [[43], [45]]
/-- Does a word join two parts at a level? -/
def joins (n : Nat) (t : Tok) : Bool := decide (0 ≤ idx (signsOf n) t.text) && (t.k == 107 || t.k == 115)
/-- Can a word stand alone? -/
def alone (t : Tok) : Bool := t.k == 110 || t.k == 111 || (t.k == 107 && (decide (0 ≤ idx kMembers t.text) || decide (0 ≤ idx kFields t.text) || t.text == wTrue || t.text == wFalse))

def failAt (i : Nat) : Option Rd := some ⟨false, i, [], 0⟩
/-- One part more on top. -/
def put (r : Rd) (t : Tok) (subs : List Nat) : Rd := ⟨true, r.i, r.L ++ [⟨t, subs⟩], r.L.length⟩

/-- Go on, if it went well. -/
def andThen (o : Option Rd) (k : Rd → Option Rd) : Option Rd := match o with
  | none => none
  | some r => if r.ok then k r else some r

/-- The reader: the calls that it may make; which form (0 choice, 1 both, 2 part, 3 compared, 4 sum, 5 one, 6 condition; 10 and above: the rest of a chain, with what stands ahead of it on top); the words; the place; the parts; what stands ahead. -/
def P : Nat → Nat → List Tok → Nat → List Pt → Nat → Option Rd
  | 0, _, _, _, _, _ => none
  | f + 1, tag, ts, i, L, x =>
    if tag = 6 then
      if isW (tokAt ts i) wIf then
        andThen (P f 6 ts (i + 1) L 0) fun a =>
        if isW (tokAt ts a.i) wThen then
          andThen (P f 6 ts (a.i + 1) a.L 0) fun b =>
          if isW (tokAt ts b.i) wElse then
            andThen (P f 6 ts (b.i + 1) b.L 0) fun c => some (put c (tokAt ts i) [a.top, b.top, c.top])
          else failAt b.i
        else failAt a.i
      else P f 0 ts i L 0
    else if tag = 5 then
      if isW (tokAt ts i) [40] then
        andThen (P f 6 ts (i + 1) L 0) fun a => if isW (tokAt ts a.i) [41] then some { a with i := a.i + 1 } else failAt a.i
      else if alone (tokAt ts i) then some ⟨true, i + 1, L ++ [⟨tokAt ts i, []⟩], L.length⟩
      else failAt i
    else if tag = 2 then
      if isW (tokAt ts i) wNot then andThen (P f 2 ts (i + 1) L 0) fun a => some (put a (tokAt ts i) [a.top])
      else P f 3 ts i L 0
    else if tag < 10 then andThen (P f (tag + 1) ts i L 0) fun a => P f (10 + tag) ts a.i a.L a.top
    else
      if joins (tag - 10) (tokAt ts i) then
        andThen (P f (tag - 9) ts (i + 1) L 0) fun b =>
        if tag = 13 then some (put b (tokAt ts i) [x, b.top]) else P f tag ts b.i (b.L ++ [⟨tokAt ts i, [x, b.top]⟩]) b.L.length
      else some ⟨true, i, L, x⟩

/-- What a word counts as a number. -/
def numOf (t : Tok) : Int := if t.k = 110 then decVal t.text else 0

/-- A number's word is digits, and not too great. -/
def TokOK (t : Tok) : Prop := t.text.length ≤ 1000 ∧ (t.k = 110 → (∀ c ∈ t.text, isD c = true) ∧ decVal t.text ≤ 9223372036854775807)

/-- What stands behind a call and a word that must follow it. -/
def Nx (f : Nat) (ts : List Tok) (a b : Rd) (x : List UInt8) : Prop :=
  if a.ok = true ∧ isW (tokAt ts a.i) x = true then P f 6 ts (a.i + 1) a.L 0 = some b else b.ok = false ∧ b.i = a.i

theorem if_split {f : Nat} {ts : List Tok} {i x : Nat} {L : List Pt} {r : Rd} (h : P (f + 1) 6 ts i L x = some r) (hw : isW (tokAt ts i) wIf = true) :
    ∃ a b c : Rd, P f 6 ts (i + 1) L 0 = some a ∧ Nx f ts a b wThen ∧ Nx f ts b c wElse ∧ r.ok = c.ok ∧ r.i = c.i ∧ (c.ok = true → a.ok = true ∧ b.ok = true ∧ r = put c (tokAt ts i) [a.top, b.top, c.top]) := by
  rw [P, if_pos rfl, if_pos hw] at h
  cases ha : P f 6 ts (i + 1) L 0 with
  | none => rw [ha] at h; simp [andThen] at h
  | some a =>
    rw [ha] at h
    simp only [andThen] at h
    by_cases hok : a.ok = true
    · rw [if_pos hok] at h
      by_cases ht : isW (tokAt ts a.i) wThen = true
      · rw [if_pos ht] at h
        cases hb : P f 6 ts (a.i + 1) a.L 0 with
        | none => rw [hb] at h; simp at h
        | some b =>
          rw [hb] at h
          simp only at h
          by_cases hbk : b.ok = true
          · rw [if_pos hbk] at h
            by_cases he : isW (tokAt ts b.i) wElse = true
            · rw [if_pos he] at h
              cases hc : P f 6 ts (b.i + 1) b.L 0 with
              | none => rw [hc] at h; simp at h
              | some c =>
                rw [hc] at h
                simp only at h
                refine ⟨a, b, c, rfl, ?_, ?_, ?_⟩
                · unfold Nx; rw [if_pos ⟨hok, ht⟩]; exact hb
                · unfold Nx; rw [if_pos ⟨hbk, he⟩]; exact hc
                · by_cases hck : c.ok = true
                  · rw [if_pos hck] at h; simp at h; subst h
                    exact ⟨by simp [put, hck], rfl, fun _ => ⟨hok, hbk, rfl⟩⟩
                  · rw [if_neg hck] at h; simp at h; subst h
                    exact ⟨rfl, rfl, fun e => absurd e hck⟩
            · rw [if_neg he] at h
              simp [failAt] at h; subst h
              refine ⟨a, b, ⟨false, b.i, [], 0⟩, rfl, ?_, ?_, rfl, rfl, fun e => by simp at e⟩
              · unfold Nx; rw [if_pos ⟨hok, ht⟩]; exact hb
              · unfold Nx; rw [if_neg (fun e => he e.2)]; exact ⟨rfl, rfl⟩
          · rw [if_neg hbk] at h; simp at h; subst h
            refine ⟨a, b, ⟨false, b.i, [], 0⟩, rfl, ?_, ?_, by simpa using hbk, rfl, fun e => by simp at e⟩
            · unfold Nx; rw [if_pos ⟨hok, ht⟩]; exact hb
            · unfold Nx; rw [if_neg (fun e => hbk e.1)]; exact ⟨rfl, rfl⟩
      · rw [if_neg ht] at h
        simp [failAt] at h; subst h
        refine ⟨a, ⟨false, a.i, [], 0⟩, ⟨false, a.i, [], 0⟩, rfl, ?_, ?_, rfl, rfl, fun e => by simp at e⟩
        · unfold Nx; rw [if_neg (fun e => ht e.2)]; exact ⟨rfl, rfl⟩
        · unfold Nx; rw [if_neg (fun e => by simp at e)]; exact ⟨rfl, rfl⟩
    · rw [if_neg hok] at h; simp at h; subst h
      refine ⟨a, ⟨false, a.i, [], 0⟩, ⟨false, a.i, [], 0⟩, rfl, ?_, ?_, by simpa using hok, rfl, fun e => by simp at e⟩
      · unfold Nx; rw [if_neg (fun e => hok e.1)]; exact ⟨rfl, rfl⟩
      · unfold Nx; rw [if_neg (fun e => by simp at e)]; exact ⟨rfl, rfl⟩
theorem one_open {f : Nat} {ts : List Tok} {i x : Nat} {L : List Pt} {r : Rd} (h : P (f + 1) 5 ts i L x = some r) (hw : isW (tokAt ts i) [40] = true) :
    ∃ a : Rd, P f 6 ts (i + 1) L 0 = some a ∧ ((a.ok = true ∧ isW (tokAt ts a.i) [41] = true ∧ r = { a with i := a.i + 1 }) ∨ (¬ (a.ok = true ∧ isW (tokAt ts a.i) [41] = true) ∧ r.ok = false ∧ r.i = a.i)) := by
  rw [P, if_neg (by decide), if_pos rfl, if_pos hw] at h
  cases ha : P f 6 ts (i + 1) L 0 with
  | none => rw [ha] at h; simp [andThen] at h
  | some a =>
    rw [ha] at h
    simp only [andThen] at h
    refine ⟨a, rfl, ?_⟩
    by_cases hok : a.ok = true
    · rw [if_pos hok] at h
      by_cases ht : isW (tokAt ts a.i) [41] = true
      · rw [if_pos ht] at h; simp at h; exact .inl ⟨hok, ht, h.symm⟩
      · rw [if_neg ht] at h; simp [failAt] at h; subst h; exact .inr ⟨fun e => ht e.2, rfl, rfl⟩
    · rw [if_neg hok] at h; simp at h; subst h; exact .inr ⟨fun e => hok e.1, by simpa using hok, rfl⟩
theorem one_alone {f : Nat} {ts : List Tok} {i x : Nat} {L : List Pt} {r : Rd} (h : P (f + 1) 5 ts i L x = some r) (hw : ¬ isW (tokAt ts i) [40] = true) :
    (alone (tokAt ts i) = true ∧ r = ⟨true, i + 1, L ++ [⟨tokAt ts i, []⟩], L.length⟩) ∨ (alone (tokAt ts i) = false ∧ r = ⟨false, i, [], 0⟩) := by
  rw [P, if_neg (by decide), if_pos rfl, if_neg hw] at h
  by_cases ha : alone (tokAt ts i) = true
  · rw [if_pos ha] at h; simp at h; exact .inl ⟨ha, h.symm⟩
  · rw [if_neg ha] at h; simp [failAt] at h; exact .inr ⟨by simpa using ha, h.symm⟩
theorem not_yes {f : Nat} {ts : List Tok} {i x : Nat} {L : List Pt} {r : Rd} (h : P (f + 1) 2 ts i L x = some r) (hw : isW (tokAt ts i) wNot = true) :
    ∃ a : Rd, P f 2 ts (i + 1) L 0 = some a ∧ r.ok = a.ok ∧ r.i = a.i ∧ (a.ok = true → r = put a (tokAt ts i) [a.top]) := by
  rw [P, if_neg (by decide), if_neg (by decide), if_pos rfl, if_pos hw] at h
  cases ha : P f 2 ts (i + 1) L 0 with
  | none => rw [ha] at h; simp [andThen] at h
  | some a =>
    rw [ha] at h
    simp only [andThen] at h
    refine ⟨a, rfl, ?_⟩
    by_cases hok : a.ok = true
    · rw [if_pos hok] at h; simp at h; subst h; exact ⟨by simp [put, hok], rfl, fun _ => rfl⟩
    · rw [if_neg hok] at h; simp at h; subst h; exact ⟨rfl, rfl, fun e => absurd e hok⟩
theorem not_no {f : Nat} {ts : List Tok} {i x : Nat} {L : List Pt} {r : Rd} (h : P (f + 1) 2 ts i L x = some r) (hw : ¬ isW (tokAt ts i) wNot = true) : P f 3 ts i L 0 = some r := by
  rw [P, if_neg (by decide), if_neg (by decide), if_pos rfl, if_neg hw] at h; exact h
/-- The levels that are chains. -/
def isChain (n : Nat) : Prop := n = 0 ∨ n = 1 ∨ n = 3 ∨ n = 4
theorem chain_split {f n : Nat} {ts : List Tok} {i x : Nat} {L : List Pt} {r : Rd} (hn : isChain n) (h : P (f + 1) n ts i L x = some r) :
    ∃ a : Rd, P f (n + 1) ts i L 0 = some a ∧ ((a.ok = true ∧ P f (10 + n) ts a.i a.L a.top = some r) ∨ (a.ok = false ∧ r = a)) := by
  unfold isChain at hn
  rw [P, if_neg (by omega), if_neg (by omega), if_neg (by omega), if_pos (by omega)] at h
  cases ha : P f (n + 1) ts i L 0 with
  | none => rw [ha] at h; simp [andThen] at h
  | some a =>
    rw [ha] at h
    simp only [andThen] at h
    refine ⟨a, rfl, ?_⟩
    by_cases hok : a.ok = true
    · rw [if_pos hok] at h; exact .inl ⟨hok, h⟩
    · rw [if_neg hok] at h; simp at h; exact .inr ⟨by simpa using hok, h.symm⟩
theorem loop_no {g n : Nat} {ts : List Tok} {i x : Nat} {L : List Pt} {r : Rd} (hn : isChain n) (h : P (g + 1) (10 + n) ts i L x = some r) (hj : joins n (tokAt ts i) = false) : r = ⟨true, i, L, x⟩ := by
  unfold isChain at hn
  rw [P, if_neg (by omega), if_neg (by omega), if_neg (by omega), if_neg (by omega), show 10 + n - 10 = n from by omega, if_neg (by simp [hj])] at h
  simp at h; exact h.symm
theorem loop_yes {g n : Nat} {ts : List Tok} {i x : Nat} {L : List Pt} {r : Rd} (hn : isChain n) (h : P (g + 1) (10 + n) ts i L x = some r) (hj : joins n (tokAt ts i) = true) :
    ∃ b : Rd, P g (n + 1) ts (i + 1) L 0 = some b ∧ ((b.ok = false ∧ r = b) ∨ (b.ok = true ∧ ((n = 3 ∧ r = put b (tokAt ts i) [x, b.top]) ∨ (n ≠ 3 ∧ P g (10 + n) ts b.i (b.L ++ [⟨tokAt ts i, [x, b.top]⟩]) b.L.length = some r)))) := by
  unfold isChain at hn
  rw [P, if_neg (by omega), if_neg (by omega), if_neg (by omega), if_neg (by omega), show 10 + n - 10 = n from by omega, show 10 + n - 9 = n + 1 from by omega, if_pos hj] at h
  cases hb : P g (n + 1) ts (i + 1) L 0 with
  | none => rw [hb] at h; simp [andThen] at h
  | some b =>
    rw [hb] at h
    simp only [andThen] at h
    refine ⟨b, rfl, ?_⟩
    by_cases hok : b.ok = true
    · rw [if_pos hok] at h
      by_cases h3 : n = 3
      · rw [if_pos (by omega)] at h; simp at h; exact .inr ⟨hok, .inl ⟨h3, h.symm⟩⟩
      · rw [if_neg (by omega)] at h; exact .inr ⟨hok, .inr ⟨h3, h⟩⟩
    · rw [if_neg hok] at h; simp at h; exact .inl ⟨by simpa using hok, h.symm⟩
theorem if_not {f : Nat} {ts : List Tok} {i x : Nat} {L : List Pt} {r : Rd} (h : P (f + 1) 6 ts i L x = some r) (hw : ¬ isW (tokAt ts i) wIf = true) : P f 0 ts i L 0 = some r := by
  rw [P, if_pos rfl, if_neg hw] at h; exact h
end Go.Proofs.YtfkdailfcmnjlaaGreatDoor

namespace Go.Proofs.YtfkdailfcmnjlaaGreatDoor
open Go Go.RowKit
set_option maxRecDepth 100000
attribute [local go_sem ↓] Go.wp_at_zero Go.wp_at_succ

/-- A part of a condition: its word, the places of the parts under it, its number; and the list of places as it lies in memory. -/
structure PartS where
  tok : Tok
  subs : List Nat
  n : Int
  sv : Value

def partCells (ps : List PartS) : List Value := ps.flatMap fun p => [.int .u8 p.tok.k, S p.tok.text, .int .i64 p.tok.pl, p.sv, .int .i64 p.n]
def intRow (l : List Nat) : Array Value := (l.map fun x : Nat => Value.int .i64 (x : Int)).toArray

/-- The list of places lies in memory. -/
def SubsOK (w : World) (p : PartS) : Prop := (p.subs = [] ∧ p.sv = .slice none 0 0) ∨ ∃ sb, p.sv = .slice (some ⟨sb, 0, none⟩) p.subs.length p.subs.length ∧ w.heap[sb]? = some (.cells (intRow p.subs) 3 (0, 0))

/-- The reader's state. -/
structure St where
  i : Nat
  pv : Value
  ps : List PartS
  bad : Bool


/-- The reader in memory. -/
structure RS (B rb gl cl : Nat) (ts : List Tok) (s : St) (w : World) : Prop where
  rd : w.heap[rb]? = some (.cells #[.slice (some ⟨gl, 0, none⟩) ts.length cl, .int .i64 s.i, s.pv, .bool s.bad] 149 (0, 0))
  words : w.ownsRow B 151 3 (.slice (some ⟨gl, 0, none⟩) ts.length cl) ts.length (tokCells ts)
  parts : w.ownsRow B 169 5 s.pv s.ps.length (partCells s.ps)
  subs : ∀ p ∈ s.ps, SubsOK w p
  hb : B ≤ rb
  hi : s.i < ts.length
  hn : ts.length ≤ 1001
  fin : ∀ i, i + 1 = ts.length → (ts.getD i noTok).k = 101
  few : s.ps.length ≤ s.i

/-- What a method may have turned: the reader, its parts' row; the new row is the old one or a new block. -/
structure Fr (rb : Nat) (pv pv' : Value) (w w' : World) : Prop where
  os : w'.os = w.os
  tape : w'.tape = w.tape
  output : w'.output = w.output
  size : w.heap.size ≤ w'.heap.size
  block : ∀ k, k < w.heap.size → k ≠ rb → some k ≠ pv.ownBlock → w'.heap[k]? = w.heap[k]?
  own : pv'.ownBlock = pv.ownBlock ∨ ∃ g, pv'.ownBlock = some g ∧ w.heap.size ≤ g

theorem Fr.refl (rb : Nat) (pv : Value) (w : World) : Fr rb pv pv w w := ⟨rfl, rfl, rfl, Nat.le_refl _, fun _ _ _ _ => rfl, .inl rfl⟩
theorem Fr.trans {rb : Nat} {pv pv1 pv2 : Value} {w w1 w2 : World} (h : Fr rb pv pv1 w w1) (k : Fr rb pv1 pv2 w1 w2) : Fr rb pv pv2 w w2 := by
  refine ⟨k.os.trans h.os, k.tape.trans h.tape, k.output.trans h.output, Nat.le_trans h.size k.size, ?_, ?_⟩
  · intro i hi h1 h2
    rw [k.block i (Nat.lt_of_lt_of_le hi h.size) h1 ?_, h.block i hi h1 h2]
    rcases h.own with e | ⟨g, e, hg⟩
    · rw [e]; exact h2
    · rw [e]; intro hh; simp at hh; omega
  · rcases k.own with e | ⟨g, e, hg⟩
    · rw [e]; exact h.own
    · exact .inr ⟨g, e, Nat.le_trans h.size hg⟩
theorem Fr.of_below {rb : Nat} {pv : Value} {w w' : World} (h : Below w.heap.size w w') : Fr rb pv pv w w' :=
  ⟨h.os, h.tape, h.output, h.size, fun k hk _ _ => h.block k hk, .inl rfl⟩
theorem Fr.set {rb : Nat} {pv pv' : Value} {w w' : World} (h : Fr rb pv pv' w w') (hr : rb < w.heap.size) (i : Nat) (v : Value) : Fr rb pv pv' w (w'.setCell ⟨rb, i, none⟩ v) :=
  ⟨h.os, h.tape, h.output, by simpa using h.size, fun k hk h1 h2 => by rw [Below.heap_setCell _ _ _ _ (by exact h1)]; exact h.block k hk h1 h2, h.own⟩

theorem lt_of_get {w : World} {k : Nat} {o : Obj} (h : w.heap[k]? = some o) : k < w.heap.size := by
  rcases Nat.lt_or_ge k w.heap.size with hlt | hge
  · exact hlt
  · rw [Array.getElem?_eq_none hge] at h; cases h

theorem ownsRow_of_block {w w' : World} {base : Nat} {e : TypeId} {size : Nat} {v : Value} {n : Nat} {xs : List Value} (h : w.ownsRow base e size v n xs) (hb : ∀ k, v.ownBlock = some k → w'.heap[k]? = w.heap[k]?) : w'.ownsRow base e size v n xs := by
  obtain ⟨h1, h2⟩ := h
  refine ⟨h1, ?_⟩
  rcases h2 with h2 | ⟨g, cap, cur, a, b, c, d⟩
  · exact .inl h2
  · exact .inr ⟨g, cap, cur, a, b, by rw [hb g (by rw [a]; rfl)]; exact c, d⟩

theorem ownsRow_type {w : World} {base : Nat} {e : TypeId} {size : Nat} {v : Value} {n : Nat} {xs : List Value} (h : w.ownsRow base e size v n xs) {k : Nat} (hk : v.ownBlock = some k) : ∃ cs, w.heap[k]? = some (.cells cs e (0, 0)) := by
  rcases h.2 with ⟨h2, _⟩ | ⟨g, cap, cur, a, b, c, d⟩
  · rw [h2] at hk; cases hk
  · rw [a] at hk; simp [Value.ownBlock] at hk; subst hk; exact ⟨cur, c⟩

theorem RS.below {B rb gl cl : Nat} {ts : List Tok} {s : St} {w w' : World} (h : RS B rb gl cl ts s w) (hb : Below w.heap.size w w') : RS B rb gl cl ts s w' := by
  refine ⟨?_, ownsRow_below h.words hb, ownsRow_below h.parts hb, ?_, h.hb, h.hi, h.hn, h.fin, h.few⟩
  · rw [hb.block rb (lt_of_get h.rd)]; exact h.rd
  · intro p hp
    rcases h.subs p hp with e | ⟨sb, e, hh⟩
    · exact .inl e
    · exact .inr ⟨sb, e, by rw [hb.block sb (lt_of_get hh)]; exact hh⟩

/-- A store into the reader's own cells. -/
theorem RS.set {B rb gl cl : Nat} {ts : List Tok} {s : St} {w : World} (h : RS B rb gl cl ts s w) (j : Nat) (v : Value) (s' : St)
    (he : (#[.slice (some ⟨gl, 0, none⟩) ts.length cl, .int .i64 s.i, s.pv, .bool s.bad] : Array Value).setIfInBounds j v = #[.slice (some ⟨gl, 0, none⟩) ts.length cl, .int .i64 s'.i, s'.pv, .bool s'.bad])
    (hps : s'.ps = s.ps) (hpv : s'.pv = s.pv) (hi : s'.i < ts.length) (hf : s'.ps.length ≤ s'.i) : RS B rb gl cl ts s' (w.setCell ⟨rb, j, none⟩ v) := by
  have ho : ∀ k, k ≠ rb → (w.setCell ⟨rb, j, none⟩ v).heap[k]? = w.heap[k]? := fun k hk => Below.heap_setCell _ _ _ _ hk
  refine ⟨?_, ?_, ?_, ?_, h.hb, hi, h.hn, h.fin, hf⟩
  · rw [heap_setCell_same w rb j _ _ v h.rd, he]
  · refine ownsRow_of_block h.words fun k hk => ho k fun e => ?_
    subst e
    obtain ⟨cs, hc⟩ := ownsRow_type h.words hk
    rw [h.rd] at hc; simp at hc
  · rw [hps, hpv]
    refine ownsRow_of_block h.parts fun k hk => ho k fun e => ?_
    subst e
    obtain ⟨cs, hc⟩ := ownsRow_type h.parts hk
    rw [h.rd] at hc; simp at hc
  · rw [hps]
    intro p hp
    rcases h.subs p hp with e | ⟨sb, e, hh⟩
    · exact .inl e
    · refine .inr ⟨sb, e, ?_⟩
      rw [ho sb (fun e => by subst e; rw [h.rd] at hh; simp at hh)]; exact hh

theorem RS.cells {B rb gl cl : Nat} {ts : List Tok} {s : St} {w : World} (h : RS B rb gl cl ts s w) :
    w.cell? ⟨rb, 0, none⟩ = some (.slice (some ⟨gl, 0, none⟩) ts.length cl) ∧ w.cell? ⟨rb, 1, none⟩ = some (.int .i64 s.i) ∧ w.cell? ⟨rb, 2, none⟩ = some s.pv ∧ w.cell? ⟨rb, 3, none⟩ = some (.bool s.bad) := by
  have hc := fun j => cell_of_row w rb j _ _ _ h.rd
  exact ⟨hc 0, hc 1, hc 2, hc 3⟩
end Go.Proofs.YtfkdailfcmnjlaaGreatDoor

namespace Go.Proofs.YtfkdailfcmnjlaaGreatDoor
open Go Go.RowKit
set_option maxRecDepth 100000
attribute [local go_sem ↓] Go.wp_at_zero Go.wp_at_succ

theorem RS.next {B rb gl cl : Nat} {ts : List Tok} {s : St} {w : World} (h : RS B rb gl cl ts s w) (hi : s.i + 1 < ts.length) : RS B rb gl cl ts { s with i := s.i + 1 } (w.setCell ⟨rb, 1, none⟩ (.int .i64 ((s.i : Int) + 1))) :=
  h.set 1 _ _ (by simp) rfl rfl hi (by have := h.few; simp; omega)
end Go.Proofs.YtfkdailfcmnjlaaGreatDoor

namespace Go.Proofs.YtfkdailfcmnjlaaGreatDoor
open Go Go.RowKit
set_option maxRecDepth 100000
attribute [local go_sem ↓] Go.wp_at_zero Go.wp_at_succ

theorem SubsOK.one {w : World} {p : PartS} (h : SubsOK w p) : p.sv.oneCell' = true := by
  rcases h with ⟨_, e⟩ | ⟨sb, e, _⟩ <;> rw [e] <;> rfl

theorem SubsOK.of {w w' : World} {p : PartS} (h : SubsOK w p) (hb : ∀ (k : Nat) (cs : Array Value), w.heap[k]? = some (.cells cs 3 (0, 0)) → w'.heap[k]? = w.heap[k]?) : SubsOK w' p := by
  rcases h with e | ⟨sb, e, hh⟩
  · exact .inl e
  · exact .inr ⟨sb, e, by rw [hb sb _ hh]; exact hh⟩

end Go.Proofs.YtfkdailfcmnjlaaGreatDoor

namespace Go.Proofs.YtfkdailfcmnjlaaGreatDoor
open Go Go.RowKit
set_option maxRecDepth 100000
attribute [local go_sem ↓] Go.wp_at_zero Go.wp_at_succ

def toPt (p : PartS) : Pt := ⟨p.tok, p.subs⟩
end Go.Proofs.YtfkdailfcmnjlaaGreatDoor

namespace Go.Proofs.YtfkdailfcmnjlaaGreatDoor
open Go Go.RowKit
set_option maxRecDepth 100000
attribute [local go_sem ↓] Go.wp_at_zero Go.wp_at_succ

/-- A block that is neither the reader nor its parts' row stands. -/
theorem Fr.far {rb : Nat} {pv pv' : Value} {w w' : World} (h : Fr rb pv pv' w w') {k : Nat} {o : Obj} (hk : w.heap[k]? = some o) (h1 : k ≠ rb) (h2 : some k ≠ pv.ownBlock) : w'.heap[k]? = some o := by
  rw [h.block k (lt_of_get hk) h1 h2]; exact hk

/-- A block at or above what was there is none of the reader's parts' row. -/
theorem own_ne {B rb gl cl : Nat} {ts : List Tok} {s : St} {w : World} (h : RS B rb gl cl ts s w) {k : Nat} {o : Obj} (hk : w.heap[k]? = some o) (ht : ∀ cs, o ≠ .cells cs 169 (0, 0)) : some k ≠ s.pv.ownBlock := fun e => by
  obtain ⟨cs, hc⟩ := ownsRow_type h.parts e.symm
  rw [hk] at hc; simp at hc; exact ht cs hc

end Go.Proofs.YtfkdailfcmnjlaaGreatDoor

namespace Go.Proofs.YtfkdailfcmnjlaaGreatDoor

/-- An item: a let's name (nothing: a rule), does it allow, its uppermost part, its place, its name's, how many parts there are up to its end. -/
structure Itm where
  name : List UInt8
  allow : Bool
  top : Nat
  pl : Nat
  named : Nat
  parts : Nat

structure ItR where
  ok : Bool
  i : Nat
  L : List Pt
  it : Itm

def noItm : Itm := ⟨[], false, 0, 0, 0, 0⟩
def itFail (i : Nat) : Option ItR := some ⟨false, i, [], noItm⟩

/-- The condition of an item, and its end. -/
def itemTail (f : Nat) (ts : List Tok) (i : Nat) (L : List Pt) (x : Itm) : Option ItR := match P f 6 ts i L 0 with
  | none => none
  | some a => if a.ok then (if isW (tokAt ts a.i) [59] then some ⟨true, a.i + 1, a.L, { x with top := a.top, parts := a.L.length }⟩ else itFail a.i) else itFail a.i

def itemP (f : Nat) (ts : List Tok) (i : Nat) (L : List Pt) : Option ItR :=
  if isW (tokAt ts i) wLet then
    if (tokAt ts (i + 1)).k = 111 then
      if isW (tokAt ts (i + 2)) [61] then itemTail f ts (i + 3) L ⟨(tokAt ts (i + 1)).text, false, 0, (tokAt ts i).pl, (tokAt ts (i + 1)).pl, 0⟩ else itFail (i + 2)
    else itFail (i + 1)
  else if isW (tokAt ts i) wAllow || isW (tokAt ts i) wDeny then
    if isW (tokAt ts (i + 1)) wIf then itemTail f ts (i + 2) L ⟨[], (tokAt ts i).text == wAllow, 0, (tokAt ts i).pl, 0, 0⟩ else itFail (i + 1)
  else itFail i
end Go.Proofs.YtfkdailfcmnjlaaGreatDoor

namespace Go.Proofs.YtfkdailfcmnjlaaGreatDoor
open Go Go.RowKit
set_option maxRecDepth 100000
attribute [local go_sem ↓] Go.wp_at_zero Go.wp_at_succ

theorem tail_split {f : Nat} {ts : List Tok} {i : Nat} {L : List Pt} {x : Itm} {r : ItR} (h : itemTail f ts i L x = some r) :
    ∃ a : Rd, P f 6 ts i L 0 = some a ∧ ((a.ok = true ∧ isW (tokAt ts a.i) [59] = true ∧ r = ⟨true, a.i + 1, a.L, { x with top := a.top, parts := a.L.length }⟩) ∨ (¬ (a.ok = true ∧ isW (tokAt ts a.i) [59] = true) ∧ r.ok = false ∧ r.i = a.i)) := by
  unfold itemTail at h
  cases ha : P f 6 ts i L 0 with
  | none => rw [ha] at h; simp at h
  | some a =>
    rw [ha] at h
    simp only at h
    refine ⟨a, rfl, ?_⟩
    by_cases hok : a.ok = true
    · rw [if_pos hok] at h
      by_cases ht : isW (tokAt ts a.i) [59] = true
      · rw [if_pos ht] at h; simp at h; exact .inl ⟨hok, ht, h.symm⟩
      · rw [if_neg ht] at h; simp [itFail] at h; subst h; exact .inr ⟨fun e => ht e.2, rfl, rfl⟩
    · rw [if_neg hok] at h; simp [itFail] at h; subst h; exact .inr ⟨fun e => hok e.1, rfl, rfl⟩
end Go.Proofs.YtfkdailfcmnjlaaGreatDoor

namespace Go.Proofs.YtfkdailfcmnjlaaGreatDoor

def noPt : Pt := ⟨noTok, []⟩

/-- The greatest of what a list's members have. -/
def foldMax (F : Nat → Nat) (l : List Nat) : Nat := l.foldl (fun m j => max m (F j)) 0
theorem foldMax_take (F : Nat → Nat) (l : List Nat) (k : Nat) (hk : k < l.length) : foldMax F (l.take (k + 1)) = max (foldMax F (l.take k)) (F l[k]) := by
  unfold foldMax
  rw [List.take_succ_eq_append_getElem hk, List.foldl_append]; rfl
theorem foldMax_le (F : Nat → Nat) (M : Nat) (h : ∀ j, F j ≤ M) (l : List Nat) : foldMax F l ≤ M := by
  have : ∀ (l : List Nat) (m : Nat), m ≤ M → l.foldl (fun m j => max m (F j)) m ≤ M := by
    intro l
    induction l with
    | nil => intro m hm; simpa using hm
    | cons x l ihl => intro m hm; rw [List.foldl_cons]; exact ihl _ (by have := h x; omega)
  exact this l 0 (Nat.zero_le _)

/-- The depth of a part; the first number bounds the calls. -/
def dep : Nat → List Pt → Nat → Nat
  | 0, _, _ => 1
  | f + 1, L, i => foldMax (dep f L) (L.getD i noPt).subs + 1

theorem dep_bound (f : Nat) (L : List Pt) (i : Nat) : dep f L i ≤ f + 1 := by
  induction f generalizing i with
  | zero => simp [dep]
  | succ f ih =>
    rw [dep]
    have := foldMax_le (dep f L) (f + 1) ih (L.getD i noPt).subs
    omega

/-- The let that gave a name, among the first items; or -1. -/
def letIx : List Itm → List UInt8 → Nat → Int
  | [], _, _ => -1
  | _ :: _, _, 0 => -1
  | x :: r, s, k + 1 => if x.name == s then 0 else (if letIx r s k < 0 then -1 else letIx r s k + 1)

theorem letIx_lt (l : List Itm) (s : List UInt8) (k : Nat) : letIx l s k < k ∧ letIx l s k < l.length := by
  induction l generalizing k with
  | nil => simp [letIx]; omega
  | cons x r ih =>
    cases k with
    | zero => simp [letIx]; omega
    | succ k => unfold letIx; have := ih k; simp only [List.length_cons]; split; omega; split <;> omega

/-- The place of the first item that is too much. -/
def manyAt (L : List Pt) : List Itm → Nat → Nat → Option Nat
  | [], _, _ => none
  | x :: r, lets, i =>
    if 10 < lets + (if x.name == [] then 0 else 1) ∨ 20 < i + 1 - (lets + (if x.name == [] then 0 else 1)) ∨ 200 < x.parts ∨ 20 < dep (x.top + 1) L x.top then some x.pl
    else manyAt L r (lets + (if x.name == [] then 0 else 1)) (i + 1)

/-- The lesser of a place and what there was. -/
def better (pl : Nat) : Option Nat → Option Nat
  | none => some pl
  | some p => if pl < p then some pl else some p
/-- One word more: is it an own name that nobody gave, and the first so far? -/
def wrongStep (xs : List Itm) (i : Nat) (t : Tok) (o : Option Nat) : Option Nat :=
  if t.k = 111 ∧ letIx xs t.text i < 0 then better t.pl o else o
/-- The first own name among some parts that nobody gave. -/
def wrongAt (xs : List Itm) (L : List Pt) (i : Nat) : Nat → Nat → Option Nat → Option Nat
  | 0, _, o => o
  | c + 1, k, o => wrongAt xs L i c (k + 1) (wrongStep xs i (L.getD k noPt).tok o)
/-- The place of the first own name that is wrong. -/
def namesAt (xs : List Itm) (L : List Pt) : List Itm → Nat → Nat → Option Nat
  | [], _, _ => none
  | x :: r, fr, i => if x.name ≠ [] ∧ 0 ≤ letIx xs x.name i then some x.named
    else (wrongAt xs L i (x.parts - fr) fr none).or (namesAt xs L r x.parts (i + 1))

/-- The type of a sign or keyword over parts of these types (110 a number, 109 a member, 116 a truth, 0 none). -/
def tySign (x s : List UInt8) : Nat :=
  if x = [43] ∨ x = [45] then (if s = [110, 110] then 110 else 0)
  else if x = [60] ∨ x = [60, 61] then (if s = [110, 110] then 116 else 0)
  else if x = [61] then (if (s.getD 0 0).toNat = (s.getD 1 0).toNat then 116 else 0)
  else if x = [111, 114] ∨ x = [97, 110, 100] then (if s = [116, 116] then 116 else 0)
  else if x = [110, 111, 116] then (if s = [116] then 116 else 0)
  else if x = [105, 102] then (if (s.getD 0 0).toNat = 116 ∧ (s.getD 1 0).toNat = (s.getD 2 0).toNat then (s.getD 1 0).toNat else 0)
  else 0

/-- The type of a part by its word and the types under it. -/
def tyCase (xs : List Itm) (its : List UInt8) (t : Tok) (s : List UInt8) : Nat :=
  if t.k = 110 then 110
  else if t.k = 111 then (its.getD (letIx xs t.text its.length).toNat 0).toNat
  else if 0 ≤ idx kFields t.text then (([110, 110, 110, 110, 109, 109, 109, 116, 116] : List UInt8).getD (idx kFields t.text).toNat 0).toNat
  else if 0 ≤ idx kMembers t.text then 109
  else if t.text = wTrue ∨ t.text = wFalse then 116
  else tySign t.text s
/-- The type of a part, where the items ahead have these types. -/
def tyOf (xs : List Itm) (its : List UInt8) (L : List Pt) : Nat → Nat → UInt8
  | 0, _ => 0
  | f + 1, k => if ((L.getD k noPt).subs.map (tyOf xs its L f)).contains 0 then 0 else UInt8.ofNat (tyCase xs its (L.getD k noPt).tok ((L.getD k noPt).subs.map (tyOf xs its L f)))
/-- The place of the first item whose condition has not the types there must be. -/
def typesAt (xs : List Itm) (L : List Pt) : List Itm → List UInt8 → Option Nat
  | [], _ => none
  | x :: r, its =>
    if (tyOf xs its L (x.top + 1) x.top).toNat = 0 ∨ (x.name = [] ∧ (tyOf xs its L (x.top + 1) x.top).toNat ≠ 116) then some x.pl
    else typesAt xs L r (its ++ [tyOf xs its L (x.top + 1) x.top])
end Go.Proofs.YtfkdailfcmnjlaaGreatDoor

namespace Go.Proofs.YtfkdailfcmnjlaaGreatDoor
open Go Go.RowKit
set_option maxRecDepth 100000
attribute [local go_sem ↓] Go.wp_at_zero Go.wp_at_succ

/-- The parts lie in memory. -/
structure PartsIn (B g cap : Nat) (ps : List PartS) (w : World) : Prop where
  row : w.ownsRow B 169 5 (.slice (some ⟨g, 0, none⟩) ps.length cap) ps.length (partCells ps)
  subs : ∀ p ∈ ps, SubsOK w p
  few : ps.length ≤ 1001

def noPart : PartS := ⟨noTok, [], 0, .slice none 0 0⟩
theorem partCells_at (ps : List PartS) (i : Nat) (hi : i < ps.length) : (partCells ps)[i * 5]? = some (.int .u8 (ps.getD i noPart).tok.k) ∧ (partCells ps)[i * 5 + 1]? = some (S (ps.getD i noPart).tok.text) ∧ (partCells ps)[i * 5 + 2]? = some (.int .i64 (ps.getD i noPart).tok.pl) ∧ (partCells ps)[i * 5 + 3]? = some (ps.getD i noPart).sv ∧ (partCells ps)[i * 5 + 4]? = some (.int .i64 (ps.getD i noPart).n) := by
  induction ps generalizing i with
  | nil => simp at hi
  | cons t ps ih =>
    cases i with
    | zero => simp [partCells]
    | succ i =>
      have := ih i (by simpa using hi)
      have e : partCells (t :: ps) = [.int .u8 t.tok.k, S t.tok.text, .int .i64 t.tok.pl, t.sv, .int .i64 t.n] ++ partCells ps := rfl
      rw [e, show (i + 1) * 5 = i * 5 + 1 + 1 + 1 + 1 + 1 from by omega, show i * 5 + 1 + 1 + 1 + 1 + 1 + 2 = i * 5 + 2 + 1 + 1 + 1 + 1 + 1 from by omega, show i * 5 + 1 + 1 + 1 + 1 + 1 + 3 = i * 5 + 3 + 1 + 1 + 1 + 1 + 1 from by omega, show i * 5 + 1 + 1 + 1 + 1 + 1 + 4 = i * 5 + 4 + 1 + 1 + 1 + 1 + 1 from by omega, show i * 5 + 1 + 1 + 1 + 1 + 1 + 1 = i * 5 + 1 + 1 + 1 + 1 + 1 + 1 from rfl]
      simpa using this
theorem PartsIn.cells {B g cap : Nat} {ps : List PartS} {w : World} (h : PartsIn B g cap ps w) (i : Nat) (hi : i < ps.length) :
    w.cell? ⟨g, i * 5, none⟩ = some (.int .u8 (ps.getD i noPart).tok.k) ∧ w.cell? ⟨g, i * 5 + 1, none⟩ = some (S (ps.getD i noPart).tok.text) ∧ w.cell? ⟨g, i * 5 + 2, none⟩ = some (.int .i64 (ps.getD i noPart).tok.pl) ∧ w.cell? ⟨g, i * 5 + 3, none⟩ = some (ps.getD i noPart).sv ∧ w.cell? ⟨g, i * 5 + 4, none⟩ = some (.int .i64 (ps.getD i noPart).n) := by
  have hc := h.row.cells (g := g) rfl
  obtain ⟨a, b, c, d, e⟩ := partCells_at ps i hi
  have ha : ∀ j, (⟨g, 0, none⟩ : Addr).add j = ⟨g, j, none⟩ := fun j => by unfold Addr.add; split <;> simp_all
  have h0 := hc _ _ a; have h1 := hc _ _ b; have h2 := hc _ _ c; have h3 := hc _ _ d; have h4 := hc _ _ e
  rw [ha] at h0 h1 h2 h3 h4
  exact ⟨h0, h1, h2, h3, h4⟩
theorem PartsIn.below {B g cap : Nat} {ps : List PartS} {w w' : World} (h : PartsIn B g cap ps w) (hb : Below w.heap.size w w') : PartsIn B g cap ps w' :=
  ⟨ownsRow_below h.row hb, fun p hp => (h.subs p hp).of fun k _ hk => hb.block k (lt_of_get hk), h.few⟩
end Go.Proofs.YtfkdailfcmnjlaaGreatDoor

namespace Go.Proofs.YtfkdailfcmnjlaaGreatDoor
open Go Go.RowKit
set_option maxRecDepth 100000

def itmCells (xs : List Itm) : List Value := xs.flatMap fun x => [S x.name, .bool x.allow, .int .i64 x.top, .int .i64 x.pl, .int .i64 x.named, .int .i64 x.parts]
theorem itmCells_at (xs : List Itm) (i : Nat) (hi : i < xs.length) : (itmCells xs)[i * 6]? = some (S xs[i].name) ∧ (itmCells xs)[i * 6 + 1]? = some (.bool xs[i].allow) ∧ (itmCells xs)[i * 6 + 2]? = some (.int .i64 xs[i].top) ∧ (itmCells xs)[i * 6 + 3]? = some (.int .i64 xs[i].pl) ∧ (itmCells xs)[i * 6 + 4]? = some (.int .i64 xs[i].named) ∧ (itmCells xs)[i * 6 + 5]? = some (.int .i64 xs[i].parts) := by
  induction xs generalizing i with
  | nil => simp at hi
  | cons t xs ih =>
    cases i with
    | zero => simp [itmCells]
    | succ i =>
      have := ih i (by simpa using hi)
      have e : itmCells (t :: xs) = [S t.name, .bool t.allow, .int .i64 t.top, .int .i64 t.pl, .int .i64 t.named, .int .i64 t.parts] ++ itmCells xs := rfl
      rw [e, show (i + 1) * 6 = i * 6 + 1 + 1 + 1 + 1 + 1 + 1 from by omega, show i * 6 + 1 + 1 + 1 + 1 + 1 + 1 + 2 = i * 6 + 2 + 1 + 1 + 1 + 1 + 1 + 1 from by omega, show i * 6 + 1 + 1 + 1 + 1 + 1 + 1 + 3 = i * 6 + 3 + 1 + 1 + 1 + 1 + 1 + 1 from by omega, show i * 6 + 1 + 1 + 1 + 1 + 1 + 1 + 4 = i * 6 + 4 + 1 + 1 + 1 + 1 + 1 + 1 from by omega, show i * 6 + 1 + 1 + 1 + 1 + 1 + 1 + 5 = i * 6 + 5 + 1 + 1 + 1 + 1 + 1 + 1 from by omega]
      simpa using this

/-- The items lie in memory. -/
structure ItemsIn (B : Nat) (iv : Value) (xs : List Itm) (w : World) : Prop where
  row : w.ownsRow B 95 6 iv xs.length (itmCells xs)
  few : xs.length ≤ 1001
theorem ItemsIn.below {B : Nat} {iv : Value} {xs : List Itm} {w w' : World} (h : ItemsIn B iv xs w) (hb : Below w.heap.size w w') : ItemsIn B iv xs w' := ⟨ownsRow_below h.row hb, h.few⟩
theorem ItemsIn.form {B : Nat} {iv : Value} {xs : List Itm} {w : World} (h : ItemsIn B iv xs w) : (iv = .slice none 0 0 ∧ xs.length = 0) ∨ ∃ g c, iv = .slice (some ⟨g, 0, none⟩) xs.length c := by
  rcases h.row.2 with e | ⟨g, cap, cur, e, _⟩
  · exact .inl e
  · exact .inr ⟨g, cap, e⟩
theorem ItemsIn.cells {B g c : Nat} {xs : List Itm} {w : World} (h : ItemsIn B (.slice (some ⟨g, 0, none⟩) xs.length c) xs w) (i : Nat) (hi : i < xs.length) :
    w.cell? ⟨g, i * 6, none⟩ = some (S xs[i].name) ∧ w.cell? ⟨g, i * 6 + 1, none⟩ = some (.bool xs[i].allow) ∧ w.cell? ⟨g, i * 6 + 2, none⟩ = some (.int .i64 xs[i].top) ∧ w.cell? ⟨g, i * 6 + 3, none⟩ = some (.int .i64 xs[i].pl) ∧ w.cell? ⟨g, i * 6 + 4, none⟩ = some (.int .i64 xs[i].named) ∧ w.cell? ⟨g, i * 6 + 5, none⟩ = some (.int .i64 xs[i].parts) := by
  have hc := h.row.cells (g := g) rfl
  obtain ⟨a, b, c, d, e, f⟩ := itmCells_at xs i hi
  have ha : ∀ j, (⟨g, 0, none⟩ : Addr).add j = ⟨g, j, none⟩ := fun j => by unfold Addr.add; split <;> simp_all
  have h0 := hc _ _ a; have h1 := hc _ _ b; have h2 := hc _ _ c; have h3 := hc _ _ d; have h4 := hc _ _ e; have h5 := hc _ _ f
  rw [ha] at h0 h1 h2 h3 h4 h5
  exact ⟨h0, h1, h2, h3, h4, h5⟩

end Go.Proofs.YtfkdailfcmnjlaaGreatDoor

namespace Go.Proofs.YtfkdailfcmnjlaaGreatDoor
open Go Go.RowKit
set_option maxRecDepth 100000
attribute [local go_sem ↓] Go.wp_at_zero Go.wp_at_succ

def byteCells (l : List UInt8) : List Value := l.map fun c => Value.int .u8 (c.toNat : Int)
/-- The policy lies in memory, and the types of the items so far. -/
structure PolIn (B gi c g cap : Nat) (xs : List Itm) (ps : List PartS) (bv : Value) (its : List UInt8) (w : World) : Prop where
  items : ItemsIn B (.slice (some ⟨gi, 0, none⟩) xs.length c) xs w
  parts : PartsIn B g cap ps w
  bytes : w.ownsRow B 5 1 bv its.length (byteCells its)
  len : its.length ≤ xs.length
theorem PolIn.below {B gi c g cap : Nat} {xs : List Itm} {ps : List PartS} {bv : Value} {its : List UInt8} {w w' : World} (h : PolIn B gi c g cap xs ps bv its w) (hb : Below w.heap.size w w') : PolIn B gi c g cap xs ps bv its w' :=
  ⟨h.items.below hb, h.parts.below hb, ownsRow_below h.bytes hb, h.len⟩

theorem idx_lt (l : List (List UInt8)) (s : List UInt8) : idx l s < l.length := by
  induction l with
  | nil => simp [idx]
  | cons x r ih => unfold idx; simp only [List.length_cons]; split; omega; split <;> omega

end Go.Proofs.YtfkdailfcmnjlaaGreatDoor

namespace Go.Proofs.YtfkdailfcmnjlaaGreatDoor

/-- What reading all items answers. -/
structure AllR where
  ok : Bool
  i : Nat
  L : List Pt
  xs : List Itm

def parseAll (F : Nat) (ts : List Tok) : Nat → Nat → List Pt → List Itm → Option AllR
  | 0, _, _, _ => none
  | g + 1, i, L, xs =>
    if (tokAt ts i).k = 101 then some ⟨true, i, L, xs⟩
    else match itemP F ts i L with
      | none => none
      | some r => if r.ok then parseAll F ts g r.i r.L (xs ++ [r.it]) else some ⟨false, r.i, [], []⟩

theorem parse_end {F g i : Nat} {ts : List Tok} {L : List Pt} {xs : List Itm} {R : AllR} (h : parseAll F ts g i L xs = some R) (hk : (tokAt ts i).k = 101) : R = ⟨true, i, L, xs⟩ := by
  cases g with
  | zero => rw [parseAll] at h; simp at h
  | succ g => rw [parseAll, if_pos hk] at h; simp at h; exact h.symm
theorem parse_step {F g i : Nat} {ts : List Tok} {L : List Pt} {xs : List Itm} {R : AllR} (h : parseAll F ts g i L xs = some R) (hk : ¬ (tokAt ts i).k = 101) :
    ∃ r g', itemP F ts i L = some r ∧ ((r.ok = true ∧ parseAll F ts g' r.i r.L (xs ++ [r.it]) = some R) ∨ (r.ok = false ∧ R = ⟨false, r.i, [], []⟩)) := by
  cases g with
  | zero => rw [parseAll] at h; simp at h
  | succ g =>
    rw [parseAll, if_neg hk] at h
    cases hr : itemP F ts i L with
    | none => rw [hr] at h; simp at h
    | some r =>
      rw [hr] at h
      simp only at h
      refine ⟨r, g, rfl, ?_⟩
      by_cases hok : r.ok = true
      · rw [if_pos hok] at h; exact .inl ⟨hok, h⟩
      · rw [if_neg hok] at h; simp at h; exact .inr ⟨by simpa using hok, h.symm⟩

/-- The error and the place of what was read. -/
def verdictOf (ts : List Tok) (R : AllR) : Nat × Nat :=
  if R.ok = false then (3, (tokAt ts R.i).pl)
  else match manyAt R.L R.xs 0 0 with
    | some p => (4, p)
    | none => match namesAt R.xs R.L R.xs 0 0 with
      | some p => (5, p)
      | none => match typesAt R.xs R.L R.xs [] with
        | some p => (6, p)
        | none => (0, 0)
end Go.Proofs.YtfkdailfcmnjlaaGreatDoor

namespace Go.Proofs.YtfkdailfcmnjlaaGreatDoor
open Go Go.RowKit
set_option maxRecDepth 100000
attribute [local go_sem ↓] Go.wp_at_zero Go.wp_at_succ

abbrev polV (iv pv : Value) : Obj := .cells #[iv, pv] 90

/-- The policy that was read lies in memory. -/
structure PolOut (B : Nat) (L : List Pt) (xs : List Itm) (iv pv : Value) (w : World) : Prop where
  items : ItemsIn B iv xs w
  parts : ∃ ps : List PartS, w.ownsRow B 169 5 pv ps.length (partCells ps) ∧ (∀ p ∈ ps, SubsOK w p) ∧ ps.length ≤ 1001 ∧ (∀ p ∈ ps, p.n = numOf p.tok) ∧ ps.map toPt = L

/-- What 'read' answers: the policy, the error, the place. -/
def ReadAns (n k : Nat) (L : List Pt) (xs : List Itm) (w : World) (e : Ending) (w' : World) : Prop :=
  Below w.heap.size w w' ∧ ∃ iv pv, e = .returned (.tuple #[.agg #[iv, pv], .int .i64 n, .int .i64 k]) ∧ (∃ a b c, iv = .slice a b c) ∧ (∃ a b c, pv = .slice a b c) ∧ (n ≠ 0 → iv = .slice none 0 0 ∧ pv = .slice none 0 0) ∧ (n = 0 → PolOut w.heap.size L xs iv pv w')

end Go.Proofs.YtfkdailfcmnjlaaGreatDoor

namespace Go.Proofs.YtfkdailfcmnjlaaGreatDoor
open Go Go.RowKit
set_option maxRecDepth 100000
attribute [local go_sem ↓] Go.wp_at_zero Go.wp_at_succ

/-- A reader stands where blocks of other types alone have turned. -/
theorem RS.types {B rb gl cl : Nat} {ts : List Tok} {s : St} {w w' : World} (h : RS B rb gl cl ts s w) (ho : ∀ (k : Nat) (cs : Array Value) (e : TypeId), w.heap[k]? = some (.cells cs e (0, 0)) → e ≠ 95 → e ≠ 90 → w'.heap[k]? = w.heap[k]?) : RS B rb gl cl ts s w' := by
  refine ⟨?_, ?_, ?_, ?_, h.hb, h.hi, h.hn, h.fin, h.few⟩
  · rw [ho _ _ _ h.rd (by decide) (by decide)]; exact h.rd
  · refine ownsRow_of_block h.words fun k hk => ?_
    obtain ⟨cs', hc⟩ := ownsRow_type h.words hk
    exact ho k cs' _ hc (by decide) (by decide)
  · refine ownsRow_of_block h.parts fun k hk => ?_
    obtain ⟨cs', hc⟩ := ownsRow_type h.parts hk
    exact ho k cs' _ hc (by decide) (by decide)
  · intro p hp
    exact (h.subs p hp).of fun k cs' hk => ho k cs' _ hk (by decide) (by decide)

theorem Fr.row {B rb gl cl : Nat} {ts : List Tok} {s s' : St} {w w' : World} (h : RS B rb gl cl ts s w) (hF : Fr rb s.pv s'.pv w w') {base : Nat} {v : Value} {n : Nat} {ys : List Value} (hr : w.ownsRow base 95 6 v n ys) : w'.ownsRow base 95 6 v n ys := by
  refine ownsRow_of_block hr fun k hk => ?_
  obtain ⟨cs, hc⟩ := ownsRow_type hr hk
  refine hF.block k (lt_of_get hc) (fun e => ?_) (own_ne h hc (by simp))
  subst e; rw [h.rd] at hc; simp at hc

/-- Behind the items: the policy lies in its box. -/
structure Held (w : World) (xs : List Itm) (ps : List PartS) (iv pv : Value) (W : World) : Prop where
  below : Below w.heap.size w W
  res : W.heap[w.heap.size]? = some (polV (.slice none 0 0) (.slice none 0 0))
  pol : W.heap[w.heap.size + 1]? = some (polV iv pv)
  items : ItemsIn w.heap.size iv xs W
  row : W.ownsRow w.heap.size 169 5 pv ps.length (partCells ps)
  subs : ∀ p ∈ ps, SubsOK W p
  few : ps.length ≤ 1001
theorem Held.next {w : World} {xs : List Itm} {ps : List PartS} {iv pv : Value} {W W' : World} (h : Held w xs ps iv pv W) (hb : Below W.heap.size W W') : Held w xs ps iv pv W' :=
  ⟨h.below.trans (hb.mono h.below.size), by rw [hb.block _ (lt_of_get h.res)]; exact h.res, by rw [hb.block _ (lt_of_get h.pol)]; exact h.pol, h.items.below hb, ownsRow_below h.row hb, fun p hp => (h.subs p hp).of fun k _ hk => hb.block k (lt_of_get hk), h.few⟩
theorem Held.cells {w : World} {xs : List Itm} {ps : List PartS} {iv pv : Value} {W : World} (h : Held w xs ps iv pv W) :
    (W.cell? ⟨w.heap.size, 0, none⟩ = some (.slice none 0 0) ∧ W.cell? ⟨w.heap.size, 1, none⟩ = some (.slice none 0 0) ∧ W.cell? ⟨w.heap.size + 1, 0, none⟩ = some iv ∧ W.cell? ⟨w.heap.size + 1, 1, none⟩ = some pv) ∧ (∀ j, W.frozen? ⟨w.heap.size, j, none⟩ = false) := by
  have h1 := fun j => cell_of_row W w.heap.size j _ _ _ h.res
  have h2 := fun j => cell_of_row W (w.heap.size + 1) j _ _ _ h.pol
  exact ⟨⟨h1 0, h1 1, h2 0, h2 1⟩, fun j => by simp [World.frozen?, h.res]⟩
/-- The answer, where all went well. -/
theorem Held.out {w : World} {xs : List Itm} {ps : List PartS} {a a' : Option Addr} {b c b' c' : Nat} {W : World} (h : Held w xs ps (.slice a b c) (.slice a' b' c') W) (hn : ∀ p ∈ ps, p.n = numOf p.tok) :
    ReadAns 0 0 (ps.map toPt) xs w (.returned (.tuple #[.agg #[.slice a b c, .slice a' b' c'], .int .i64 (0 : Nat), .int .i64 (0 : Nat)])) ((W.setCell ⟨w.heap.size, 0, none⟩ (.slice a b c)).setCell ⟨w.heap.size, 1, none⟩ (.slice a' b' c')) := by
  have hty : ∀ (k : Nat) (cs : Array Value) (e : TypeId), W.heap[k]? = some (.cells cs e (0, 0)) → e ≠ 90 → ((W.setCell ⟨w.heap.size, 0, none⟩ (.slice a b c)).setCell ⟨w.heap.size, 1, none⟩ (.slice a' b' c')).heap[k]? = W.heap[k]? := fun k cs e hk he => by
    have hne : k ≠ w.heap.size := fun hh => by subst hh; rw [h.res] at hk; simp at hk; exact he hk.2.symm
    rw [Below.heap_setCell _ _ _ _ hne, Below.heap_setCell _ _ _ _ hne]
  refine ⟨(h.below.setCell (p := ⟨w.heap.size, 0, none⟩) (Nat.le_refl _) _).setCell (p := ⟨w.heap.size, 1, none⟩) (Nat.le_refl _) _, _, _, rfl, ⟨_, _, _, rfl⟩, ⟨_, _, _, rfl⟩, fun e => absurd rfl e, fun _ => ⟨⟨?_, h.items.few⟩, ps, ?_, ?_, h.few, hn, rfl⟩⟩
  · refine ownsRow_of_block h.items.row fun k hk => ?_
    obtain ⟨cs, hc⟩ := ownsRow_type h.items.row hk
    exact hty k cs _ hc (by decide)
  · refine ownsRow_of_block h.row fun k hk => ?_
    obtain ⟨cs, hc⟩ := ownsRow_type h.row hk
    exact hty k cs _ hc (by decide)
  · intro p hp
    exact (h.subs p hp).of fun k cs hk => hty k cs _ hk (by decide)
end Go.Proofs.YtfkdailfcmnjlaaGreatDoor
