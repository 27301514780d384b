/-
  Codes: the places of instructions, and what is known by places. Compiling: a policy's code is one, and says what the policy says. Compiling: the code of a policy is taken, and judges as the policy means. Rewriting conditions: each step is as good as what it was made of.
-/
import Derived.Test.YtfkdailfcmnjlaaGreatDoorCompiles01
import Derived.Test.YtfkdailfcmnjlaaGreatDoorCompiles02
import Derived.Test.YtfkdailfcmnjlaaGreatDoorCompiles04
import Derived.Test.YtfkdailfcmnjlaaGreatDoorCompiles05
import Derived.Test.YtfkdailfcmnjlaaGreatDoorCompiles06
import Derived.Test.YtfkdailfcmnjlaaGreatDoorCompiles07
import Derived.Test.YtfkdailfcmnjlaaGreatDoorCompiles08
import Derived.Test.YtfkdailfcmnjlaaGreatDoorCompiles09
import Derived.Test.YtfkdailfcmnjlaaGreatDoorCompiles10
import Derived.Test.YtfkdailfcmnjlaaGreatDoorCompiles11
import Derived.Test.YtfkdailfcmnjlaaGreatDoorCompiles12
import Derived.Test.YtfkdailfcmnjlaaGreatDoorCompiles13
import Derived.Test.YtfkdailfcmnjlaaGreatDoorCompiles14
import Derived.Test.YtfkdailfcmnjlaaGreatDoorCompiles15
import Derived.Test.YtfkdailfcmnjlaaGreatDoorCompiles16
import Derived.Test.YtfkdailfcmnjlaaGreatDoorCompiles17
import Derived.Test.YtfkdailfcmnjlaaGreatDoorCompiles18
import Derived.Test.YtfkdailfcmnjlaaGreatDoorCompiles19
import Derived.Test.YtfkdailfcmnjlaaGreatDoorCompiles24
import Derived.Test.YtfkdailfcmnjlaaGreatDoorCompiles25
import Derived.Test.YtfkdailfcmnjlaaGreatDoorCompiles26
import Derived.Test.YtfkdailfcmnjlaaGreatDoorLays
import Derived.WalkKit
import Derived.Deep.QuietTactic
import Derived.BigQuiet
import Derived.WalkSpells
import GoSem.Op.String
import Derived.Deep.AppendLies
import Derived.Deep.RegionHeld3
import Derived.Deep.DrawnRows
import Derived.Deep.RegionHeldLaw
import Derived.Deep.RegionLaw
import Derived.Lib.ParseIntBCases
set_option linter.unusedVariables false
set_option linter.unusedSimpArgs false
namespace Go.Proofs.YtfkdailfcmnjlaaGreatDoor
open Go Go.RowKit
set_option maxRecDepth 100000

/-- The places to which an instruction leads. -/
def leadsP (x : Ins) : List Nat :=
  if x.op = 15 then [x.pl + 3, x.pl + 3 + x.n.toNat] else if x.op = 16 then [x.pl + 3 + x.n.toNat] else if x.op = 17 ∨ x.op = 18 then [] else [x.pl + sizeOp x.op]
theorem leadsP_len (x : Ins) : (leadsP x).length ≤ 2 := by unfold leadsP; (repeat' split) <;> simp
/-- Does an instruction begin there? -/
def beg (ins : List Ins) (p : Nat) : Bool := ins.any fun y => y.pl == p
theorem beg_iff {ins : List Ins} {p : Nat} : beg ins p = true ↔ ∃ j, j < ins.length ∧ (ins.getD j noIns).pl = p := by
  unfold beg
  rw [List.any_eq_true]
  constructor
  · rintro ⟨y, hy, e⟩
    obtain ⟨j, hj, rfl⟩ := List.getElem_of_mem hy
    exact ⟨j, hj, by rw [List.getD_eq_getElem?_getD, List.getElem?_eq_getElem hj]; simpa using e⟩
  · rintro ⟨j, hj, e⟩
    exact ⟨_, getD_ins hj, by simpa using e⟩
theorem beg_at {ins : List Ins} {j : Nat} (h : j < ins.length) : beg ins (ins.getD j noIns).pl = true := beg_iff.2 ⟨j, h, rfl⟩
theorem code_size {b : List UInt8} {ins : List Ins} (h : CodeOK b ins) : ∀ x ∈ ins, sizeOp x.op ≠ 0 := fun x hx => (h.each x hx).size
theorem pl_inc {b : List UInt8} {ins : List Ins} (h : CodeOK b ins) {i j : Nat} (hij : i < j) (hj : j < ins.length) : (ins.getD i noIns).pl < (ins.getD j noIns).pl := by
  have h1 := behind_inc (code_size h) h.order i j hij hj
  have h2 := code_size h _ (getD_ins (ins := ins) (i := i) (by omega))
  omega
theorem pl_inj {b : List UInt8} {ins : List Ins} (h : CodeOK b ins) {i j : Nat} (hi : i < ins.length) (hj : j < ins.length) (e : (ins.getD i noIns).pl = (ins.getD j noIns).pl) : i = j := by
  rcases Nat.lt_trichotomy i j with g | g | g
  · have := pl_inc h g hj; omega
  · exact g
  · have := pl_inc h g hi; omega
theorem pl_lt {b : List UInt8} {ins : List Ins} (h : CodeOK b ins) {i : Nat} (hi : i < ins.length) : 3 ≤ (ins.getD i noIns).pl ∧ (ins.getD i noIns).pl < b.length := (behind_le (code_size h) h.order).2 i hi
theorem behind_next {e : Nat} : ∀ {ins : List Ins} {a : Nat}, Behind a e ins → ∀ i, i < ins.length → (i + 1 < ins.length → (ins.getD (i + 1) noIns).pl = (ins.getD i noIns).pl + sizeOp (ins.getD i noIns).op) ∧ (¬ i + 1 < ins.length → (ins.getD i noIns).pl + sizeOp (ins.getD i noIns).op = e)
  | [], a, h, i, hi => by simp at hi
  | x :: r, a, h, i, hi => by
    obtain ⟨h1, h2⟩ := h
    cases i with
    | succ i =>
      have := behind_next h2 i (by simpa using hi)
      simp only [List.getD_cons_succ, List.length_cons] at *
      exact ⟨fun g => this.1 (by omega), fun g => this.2 (by omega)⟩
    | zero =>
      cases r with
      | nil =>
        refine ⟨fun g => by simp at g, fun _ => ?_⟩
        have h2 : a + sizeOp x.op = e := h2
        simp; omega
      | cons y s =>
        refine ⟨fun _ => ?_, fun g => by simp at g⟩
        have h3 : y.pl = a + sizeOp x.op := h2.1
        simp; omega
/-- What a place that is led to is, by the order of the instructions. -/
def PlIs (b : List UInt8) (ins : List Ins) (p : Nat) : Option Nat → Prop
  | some j => j < ins.length ∧ (ins.getD j noIns).pl = p
  | none => b.length ≤ p ∨ beg ins p = false
theorem next_is {b : List UInt8} {ins : List Ins} (h : CodeOK b ins) {i : Nat} (hi : i < ins.length) : PlIs b ins ((ins.getD i noIns).pl + sizeOp (ins.getD i noIns).op) (if i + 1 < ins.length then some (i + 1) else none) := by
  obtain ⟨h1, h2⟩ := behind_next h.order i hi
  split
  · rename_i g; exact ⟨g, h1 g⟩
  · rename_i g; exact .inl (by rw [h2 g]; exact Nat.le_refl _)
theorem jump_is (b : List UInt8) (ins : List Ins) (x : Ins) : PlIs b ins (x.pl + 3 + x.n.toNat) (jumpTo ins x) := by
  cases e : jumpTo ins x with
  | none =>
    refine .inr ?_
    unfold jumpTo at e
    rw [List.findIdx?_eq_none_iff] at e
    unfold beg
    rw [List.any_eq_false]
    intro y hy
    have := e y hy
    simpa using this
  | some j =>
    unfold jumpTo at e
    rw [List.findIdx?_eq_some_iff_getElem] at e
    obtain ⟨hj, hp, _⟩ := e
    refine ⟨hj, ?_⟩
    rw [List.getD_eq_getElem?_getD, List.getElem?_eq_getElem hj]
    simpa using hp
theorem leads_is {b : List UInt8} {ins : List Ins} (h : CodeOK b ins) {i : Nat} (hi : i < ins.length) : (leadsK ins i (ins.getD i noIns)).length = (leadsP (ins.getD i noIns)).length ∧ ∀ m, m < (leadsP (ins.getD i noIns)).length → PlIs b ins ((leadsP (ins.getD i noIns)).getD m 0) ((leadsK ins i (ins.getD i noIns)).getD m none) := by
  have hn := next_is h hi
  have hj := jump_is b ins (ins.getD i noIns)
  generalize ins.getD i noIns = x at *
  unfold leadsK leadsP
  by_cases h15 : x.op = 15
  · rw [if_pos h15, if_pos h15]
    have e : sizeOp x.op = 3 := by rw [h15]; rfl
    rw [e] at hn
    refine ⟨rfl, fun m hm => ?_⟩
    have : m = 0 ∨ m = 1 := by simp at hm; omega
    rcases this with rfl | rfl
    · exact hn
    · exact hj
  rw [if_neg h15, if_neg h15]
  by_cases h16 : x.op = 16
  · rw [if_pos h16, if_pos h16]
    refine ⟨rfl, fun m hm => ?_⟩
    obtain rfl : m = 0 := by simp at hm; omega
    exact hj
  rw [if_neg h16, if_neg h16]
  by_cases h17 : x.op = 17 ∨ x.op = 18
  · rw [if_pos h17, if_pos h17]
    exact ⟨rfl, fun m hm => by simp at hm⟩
  rw [if_neg h17, if_neg h17]
  refine ⟨rfl, fun m hm => ?_⟩
  obtain rfl : m = 0 := by simp at hm; omega
  exact hn
/-- What is known, by places and by instructions. -/
structure PlC (b : List UInt8) (ins : List Ins) (kl come : List (Option Kn)) : Prop where
  plen : kl.length = b.length
  clen : come.length = ins.length
  same : ∀ i, i < ins.length → kl.getD (ins.getD i noIns).pl none = come.getD i none
theorem PlC.set {b : List UInt8} {ins : List Ins} {kl come : List (Option Kn)} (h : PlC b ins kl come) (hc : CodeOK b ins) {p j : Nat} (hj : j < ins.length ∧ (ins.getD j noIns).pl = p) (v : Option Kn) : PlC b ins (kl.set p v) (come.set j v) := by
  obtain ⟨hj, rfl⟩ := hj
  refine ⟨by rw [List.length_set]; exact h.plen, by rw [List.length_set]; exact h.clen, fun i hi => ?_⟩
  by_cases e : j = i
  · subst e
    rw [getD_set_eq (by rw [h.plen]; exact (pl_lt hc hj).2), getD_set_eq (by rw [h.clen]; exact hj)]
  · rw [getD_set_ne (fun g => e (pl_inj hc hj hi g)), getD_set_ne e]
    exact h.same i hi
/-- One place more on a way. -/
theorem bring_step {b : List UInt8} {ins : List Ins} {kl come : List (Option Kn)} (h : PlC b ins kl come) (hc : CodeOK b ins) {p : Nat} {o : Option Nat} (ho : PlIs b ins p o) (k : Kn) (r : List (Option Nat)) :
    (o = none → (b.length ≤ p ∨ beg ins p = false) ∧ bringK come k (o :: r) = none) ∧
    (∀ j, o = some j → p < b.length ∧ beg ins p = true ∧ j < ins.length ∧ (kl.getD p none = none → bringK come k (o :: r) = bringK (come.set j (some k)) k r ∧ PlC b ins (kl.set p (some k)) (come.set j (some k))) ∧
      (∀ a, kl.getD p none = some a → come.getD j none = some a ∧ (a.st ≠ k.st → bringK come k (o :: r) = none) ∧ (a.st = k.st → bringK come k (o :: r) = bringK (come.set j (some ⟨a.st, meetC a.cl k.cl⟩)) k r ∧ PlC b ins (kl.set p (some ⟨a.st, meetC a.cl k.cl⟩)) (come.set j (some ⟨a.st, meetC a.cl k.cl⟩))))) := by
  constructor
  · rintro rfl
    exact ⟨ho, rfl⟩
  · rintro j rfl
    obtain ⟨hj, hp⟩ := ho
    have hlt := (pl_lt hc hj).2
    have hbg := beg_at hj
    have hs := h.same j hj
    rw [hp] at hlt hbg hs
    refine ⟨hlt, hbg, hj, fun e => ?_, fun a e => ?_⟩
    · rw [hs] at e
      exact ⟨by simp only [bringK, e], h.set hc ⟨hj, hp⟩ _⟩
    · rw [hs] at e
      refine ⟨e, fun g => by simp only [bringK, e]; rw [if_neg g], fun g => ⟨by simp only [bringK, e]; rw [if_pos g], h.set hc ⟨hj, hp⟩ _⟩⟩
/-- Between two places: what is left to look through. -/
structure FlI (b : List UInt8) (ins : List Ins) (depth at_ i : Nat) (kl come : List (Option Kn)) (R : Bool) : Prop where
  pc : PlC b ins kl come
  le : i ≤ ins.length
  old : ∀ j, j < i → (ins.getD j noIns).pl < at_
  new : ∀ j, i ≤ j → j < ins.length → at_ ≤ (ins.getD j noIns).pl
  res : R = flowK ins depth (ins.drop i) i come
theorem FlI.skip {b : List UInt8} {ins : List Ins} {depth at_ i : Nat} {kl come : List (Option Kn)} {R : Bool} (h : FlI b ins depth at_ i kl come R) (hb : beg ins at_ = false) : FlI b ins depth (at_ + 1) i kl come R :=
  ⟨h.pc, h.le, fun j hj => by have := h.old j hj; omega, fun j h1 h2 => by
    have h3 := h.new j h1 h2
    rcases Nat.lt_or_eq_of_le h3 with g | g
    · exact g
    · rw [g, beg_at h2] at hb; exact absurd hb (by decide), h.res⟩
theorem FlI.here {b : List UInt8} {ins : List Ins} {depth at_ i : Nat} {kl come : List (Option Kn)} {R : Bool} (h : FlI b ins depth at_ i kl come R) (hc : CodeOK b ins) (hb : beg ins at_ = true) : i < ins.length ∧ (ins.getD i noIns).pl = at_ ∧ kl.getD at_ none = come.getD i none ∧ ins.drop i = ins.getD i noIns :: ins.drop (i + 1) := by
  obtain ⟨j, hj, e⟩ := beg_iff.1 hb
  have h1 : i ≤ j := Nat.le_of_not_lt fun g => by have := h.old j g; omega
  have hi : i < ins.length := by omega
  have h2 := h.new i (Nat.le_refl _) hi
  have e2 : i = j := by
    rcases Nat.lt_or_eq_of_le h1 with g | g
    · have := pl_inc hc g hj; omega
    · exact g
  subst e2
  refine ⟨hi, e, ?_, ?_⟩
  · rw [← e]; exact h.pc.same i hi
  · rw [List.drop_eq_getElem_cons hi, List.getD_eq_getElem?_getD, List.getElem?_eq_getElem hi]; rfl
theorem FlI.next {b : List UInt8} {ins : List Ins} {depth at_ i : Nat} {kl come : List (Option Kn)} {R : Bool} (h : FlI b ins depth at_ i kl come R) (hc : CodeOK b ins) (hb : beg ins at_ = true) {kl' come' : List (Option Kn)} (hp : PlC b ins kl' come') (hr : R = flowK ins depth (ins.drop (i + 1)) (i + 1) come') : FlI b ins depth (at_ + 1) (i + 1) kl' come' R := by
  obtain ⟨hi, e, _, _⟩ := h.here hc hb
  refine ⟨hp, hi, fun j hj => ?_, fun j h1 h2 => ?_, hr⟩
  · rcases Nat.lt_or_eq_of_le (Nat.le_of_lt_succ hj) with g | g
    · have := h.old j g; omega
    · subst g; omega
  · have := pl_inc hc (show i < j by omega) h2
    omega
theorem FlI.last {b : List UInt8} {ins : List Ins} {depth i : Nat} {kl come : List (Option Kn)} {R : Bool} (h : FlI b ins depth b.length i kl come R) (hc : CodeOK b ins) : R = true := by
  have e : i = ins.length := by
    rcases Nat.lt_or_eq_of_le h.le with g | g
    · have h1 := h.new i (Nat.le_refl _) g
      have h2 := (pl_lt hc g).2
      omega
    · exact g
  rw [h.res, e, List.drop_length]; rfl
/-- At the beginning. -/
theorem FlI.first {b : List UInt8} {ins : List Ins} (depth cells : Nat) (hc : CodeOK b ins) (h0 : 0 < ins.length) : FlI b ins depth 3 0 ((List.replicate b.length none).set 3 (some ⟨[], List.replicate cells 0⟩)) (come0 cells ins.length) (flowK ins depth ins 0 (come0 cells ins.length)) := by
  have hp0 : (ins.getD 0 noIns).pl = 3 := by
    have := hc.order
    cases ins with
    | nil => simp at h0
    | cons x r => exact this.1
  have h3 : 3 < b.length := by have := (pl_lt hc h0).2; omega
  refine ⟨⟨by simp, come0_len _ _ h0, fun i hi => ?_⟩, Nat.zero_le _, fun j hj => by omega, fun j _ hj => (pl_lt hc hj).1, by rw [List.drop_zero]⟩
  cases i with
  | zero => rw [hp0, getD_set_eq (by simpa using h3)]; rfl
  | succ i =>
    have := pl_inc hc (show 0 < i + 1 by omega) hi
    rw [getD_set_ne (by omega)]
    unfold come0
    have e : ∀ (n j : Nat), (List.replicate n (none : Option Kn)).getD j none = none := fun n j => by
      rw [List.getD_eq_getElem?_getD, List.getElem?_replicate]; split <;> rfl
    rw [List.getD_cons_succ, e, e]
/-- Where instructions begin, as far as they were read. -/
def begL (n : Nat) (ins : List Ins) : List Bool := (List.range n).map fun p => beg ins p
theorem begL_len (n : Nat) (ins : List Ins) : (begL n ins).length = n := by simp [begL]
theorem begL_at {n : Nat} (ins : List Ins) {p : Nat} (h : p < n) : (begL n ins)[p]? = some (beg ins p) := by simp [begL, h]
theorem begL_more {n : Nat} (ins : List Ins) (x : Ins) : (begL n ins).set x.pl true = begL n (ins ++ [x]) := by
  apply List.ext_getElem?
  intro p
  by_cases hp : p < n
  · rw [begL_at _ hp]
    by_cases e : x.pl = p
    · subst e
      rw [List.getElem?_set_self (by rw [begL_len]; exact hp)]
      simp [beg]
    · rw [List.getElem?_set_ne e, begL_at _ hp]
      simp [beg, e]
  · rw [List.getElem?_eq_none (by rw [List.length_set, begL_len]; omega), List.getElem?_eq_none (by rw [begL_len]; omega)]
/-- Reading on. -/
structure DecI (b : List UInt8) (a : Nat) (pre : List Ins) (R : Option (List Ins)) : Prop where
  le : a ≤ b.length
  go : ∃ f, b.length < f + a ∧ R = (dec f b a).map (pre ++ ·)
theorem DecI.first {b : List UInt8} (h : 3 ≤ b.length) : DecI b 3 [] (dec (b.length + 1) b 3) := ⟨h, b.length + 1, by omega, by simp⟩
theorem DecI.bad {b : List UInt8} {a : Nat} {pre : List Ins} {R : Option (List Ins)} (h : DecI b a pre R) (ha : a < b.length) (hb : ¬ (sizeOp (byteAt b a) ≠ 0 ∧ a + sizeOp (byteAt b a) ≤ b.length ∧ (sizeOp (byteAt b a) = 2 → (byteAt b (a + 1) : Int) ≤ boundOp (byteAt b a) (byteAt b 2)))) : R = none := by
  obtain ⟨f, hf, e⟩ := h.go
  rw [e]
  cases f with
  | zero => rfl
  | succ f => rw [dec, if_neg (by omega), if_neg hb]; rfl
theorem DecI.step {b : List UInt8} {a : Nat} {pre : List Ins} {R : Option (List Ins)} (h : DecI b a pre R) (ha : a < b.length) (hg : sizeOp (byteAt b a) ≠ 0 ∧ a + sizeOp (byteAt b a) ≤ b.length ∧ (sizeOp (byteAt b a) = 2 → (byteAt b (a + 1) : Int) ≤ boundOp (byteAt b a) (byteAt b 2))) : DecI b (a + sizeOp (byteAt b a)) (pre ++ [insAt b a]) R := by
  obtain ⟨f, hf, e⟩ := h.go
  cases f with
  | zero => omega
  | succ f =>
    refine ⟨hg.2.1, f, by have := hg.1; omega, ?_⟩
    rw [e, dec, if_neg (by omega), if_pos hg, Option.map_map]
    congr 1
    funext l
    simp
theorem DecI.last {b : List UInt8} {a : Nat} {pre : List Ins} {R : Option (List Ins)} (h : DecI b a pre R) (ha : b.length ≤ a) : R = some pre := by
  obtain ⟨f, hf, e⟩ := h.go
  rw [e]
  cases f with
  | succ f => rw [dec, if_pos ha]; simp
  | zero => have := h.le; omega
end Go.Proofs.YtfkdailfcmnjlaaGreatDoor

namespace Go.Proofs.YtfkdailfcmnjlaaGreatDoor
open Go Go.RowKit
set_option maxRecDepth 100000

/-- How many bytes instructions take. -/
def szB (l : List In4) : Nat := (l.map fun x => sizeOp x.op).sum
theorem szB_app (a b : List In4) : szB (a ++ b) = szB a + szB b := by simp [szB]
theorem szB_cons (x : In4) (b : List In4) : szB (x :: b) = sizeOp x.op + szB b := by simp [szB]
theorem szB_nil : szB [] = 0 := rfl
theorem cnt_not {d : Nat} {t a : Tr} (hs : t.kids = [a]) : cntT (d + 1) t = 1 + cntT d a := by rw [cntT, hs]; simp
theorem cnt_two {d : Nat} {t a b : Tr} (hs : t.kids = [a, b]) : cntT (d + 1) t = 1 + cntT d a + cntT d b := by rw [cntT, hs]; simp; omega
theorem cnt_if {d : Nat} {t a b c : Tr} (hs : t.kids = [a, b, c]) : cntT (d + 1) t = 1 + cntT d a + cntT d b + cntT d c := by rw [cntT, hs]; simp; omega
theorem size_over (k : Nat) : sizeOp (overOp k) = 1 := by unfold overOp; (repeat' split) <;> rfl
theorem size_word (t : Tr) : sizeOp (wordOp t) ≤ 9 := size_le _
theorem gen_bytes {jmp : Bool} (d : Nat) : ∀ {t : Tr} {k : Kn} {m : Option Bool} {p T : Nat}, WfT d t → szB (gen jmp d m t k p T) + (if m = none then 4 else 0) ≤ 13 * cntT d t := by
  induction d with
  | zero => intro t k m p T h; exact h.elim
  | succ d ih =>
    intro t k m p T h
    have hw := h.2
    have LAY : szB (gen jmp (d + 1) none t k p 0) + 4 ≤ 13 * cntT (d + 1) t := by
      rcases h.1 with ⟨hk, hs, _⟩ | ⟨hk, a, hs⟩ | ⟨hk, a, b, c, hs⟩ | ⟨hk, a, b, hs⟩
      · have h14 : ¬ t.k = 14 := by unfold leafK at hk; omega
        have h19 : ¬ t.k = 19 := by unfold leafK at hk; omega
        simp only [gen, if_neg h14, if_neg h19, hs, List.length_nil]
        rw [if_neg (by decide), szB_cons, szB_nil]
        have := size_word t
        have := cnt_pos h
        simp only []
        omega
      · have h14 : ¬ t.k = 14 := by omega
        have e0 : t.kid 0 = a := by unfold Tr.kid; rw [hs]; rfl
        simp only [gen, if_neg h14, if_pos hk, e0]
        have h1 := ih (k := k) (m := none) (p := p) (T := 0) (hw a (by rw [hs]; simp))
        rw [szB_app, szB_cons, szB_nil, cnt_not hs]
        have e : sizeOp 12 = 1 := rfl
        simp only [e]
        simp at h1
        omega
      · have e0 : t.kid 0 = a := by unfold Tr.kid; rw [hs]; rfl
        have e1 : t.kid 1 = b := by unfold Tr.kid; rw [hs]; rfl
        have e2 : t.kid 2 = c := by unfold Tr.kid; rw [hs]; rfl
        simp only [gen, if_pos hk, e0, e1, e2]
        have h1 := fun p T => ih (k := k) (m := some false) (p := p) (T := T) (hw a (by rw [hs]; simp))
        have h2 := fun p T => ih (k := k) (m := none) (p := p) (T := T) (hw b (by rw [hs]; simp))
        have h3 := fun p T => ih (k := k) (m := none) (p := p) (T := T) (hw c (by rw [hs]; simp))
        simp only [if_true, reduceCtorEq, if_false] at h1 h2 h3
        rw [szB_app, szB_app, szB_cons, cnt_if hs]
        have e : sizeOp 16 = 3 := rfl
        simp only [e]
        have h1 := h1 p (p + szG jmp d (some false) a + szG jmp d none b + 1)
        have h2 := h2 (p + szG jmp d (some false) a) 0
        have h3 := h3 (p + szG jmp d (some false) a + szG jmp d none b + 1) 0
        omega
      · have h14 : ¬ t.k = 14 := by unfold twoK at hk; omega
        have h19 : ¬ t.k = 19 := by unfold twoK at hk; omega
        have hl : t.kids.length = 2 := by rw [hs]; rfl
        have e0 : t.kid 0 = a := by unfold Tr.kid; rw [hs]; rfl
        have e1 : t.kid 1 = b := by unfold Tr.kid; rw [hs]; rfl
        simp only [gen, if_neg h14, if_neg h19, if_pos hl, e0, e1]
        have h1 := ih (k := k) (m := none) (p := p) (T := 0) (hw a (by rw [hs]; simp))
        have h2 := ih (k := ⟨tyTr k.cl d a :: k.st, k.cl⟩) (m := none) (p := p + szG jmp d none a) (T := 0) (hw b (by rw [hs]; simp))
        rw [szB_app, szB_app, szB_cons, szB_nil, cnt_two hs]
        simp only [size_over]
        simp at h1 h2
        omega
    cases m with
    | none => exact LAY
    | some this =>
      simp only [reduceCtorEq, if_false, Nat.add_zero]
      cases hj : byJ jmp t.k with
      | false =>
        have hgen : gen jmp (d + 1) (some this) t k p T = gen jmp (d + 1) none t k p 0 ++ ((if this then [⟨12, 0, 0, ⟨2 :: k.st, k.cl⟩⟩] else []) ++ [⟨15, 0, T, ⟨2 :: k.st, k.cl⟩⟩]) := by
          simp only [gen, hj]; rfl
        rw [hgen, szB_app]
        have : szB ((if this then [(⟨12, 0, 0, ⟨2 :: k.st, k.cl⟩⟩ : In4)] else []) ++ [⟨15, 0, T, ⟨2 :: k.st, k.cl⟩⟩]) ≤ 4 := by cases this <;> simp [szB, sizeOp]
        omega
      | true =>
        simp only [gen, hj, if_true]
        rcases h.1 with ⟨hk, hs, _⟩ | ⟨hk, a, hs⟩ | ⟨hk, a, b, c, hs⟩ | ⟨hk, a, b, hs⟩
        · have h2 : t.k = 20 ∨ t.k = 21 := by
            unfold byJ at hj; unfold leafK at hk
            simp at hj; omega
          rw [if_pos h2]
          have := cnt_pos h
          have e : sizeOp 16 = 3 := rfl
          split
          · rw [szB_cons, szB_nil]; simp only [e]; omega
          · rw [szB_nil]; omega
        · have h2 : ¬ (t.k = 20 ∨ t.k = 21) := by omega
          have e0 : t.kid 0 = a := by unfold Tr.kid; rw [hs]; rfl
          rw [if_neg h2, if_pos hk, e0, cnt_not hs]
          have h1 := ih (k := k) (m := some (!this)) (p := p) (T := T) (hw a (by rw [hs]; simp))
          simp at h1
          omega
        · have h2 : ¬ (t.k = 20 ∨ t.k = 21) := by omega
          have h19 : ¬ t.k = 19 := by omega
          have e0 : t.kid 0 = a := by unfold Tr.kid; rw [hs]; rfl
          have e1 : t.kid 1 = b := by unfold Tr.kid; rw [hs]; rfl
          have e2 : t.kid 2 = c := by unfold Tr.kid; rw [hs]; rfl
          rw [if_neg h2, if_neg h19, if_pos hk, e0, e1, e2, cnt_if hs, szB_app, szB_app, szB_cons]
          have h1 := ih (k := k) (m := some false) (p := p) (T := p + szG jmp d (some false) a + szG jmp d (some this) b + 1) (hw a (by rw [hs]; simp))
          have h2 := ih (k := k) (m := some this) (p := p + szG jmp d (some false) a) (T := T) (hw b (by rw [hs]; simp))
          have h3 := ih (k := k) (m := some this) (p := p + szG jmp d (some false) a + szG jmp d (some this) b + 1) (T := T) (hw c (by rw [hs]; simp))
          simp only [reduceCtorEq, if_false] at h1 h2 h3
          have e : sizeOp 16 = 3 := rfl
          simp only [e]
          omega
        · have h2 : ¬ (t.k = 20 ∨ t.k = 21) := by unfold twoK at hk; omega
          have h19 : ¬ t.k = 19 := by unfold twoK at hk; omega
          have h14 : ¬ t.k = 14 := by unfold twoK at hk; omega
          have e0 : t.kid 0 = a := by unfold Tr.kid; rw [hs]; rfl
          have e1 : t.kid 1 = b := by unfold Tr.kid; rw [hs]; rfl
          rw [if_neg h2, if_neg h19, if_neg h14, e0, e1, cnt_two hs, szB_app]
          have h1 := fun T => ih (k := k) (m := some (decide (t.k = 17))) (p := p) (T := T) (hw a (by rw [hs]; simp))
          have h2 := ih (k := k) (m := some this) (p := p + szG jmp d (some (decide (t.k = 17))) a) (T := T) (hw b (by rw [hs]; simp))
          simp only [reduceCtorEq, if_false] at h1 h2
          have h1 := h1 (if this = decide (t.k = 17) then T else p + szG jmp d (some (decide (t.k = 17))) a + szG jmp d (some this) b)
          omega
theorem genI_bytes {jmp : Bool} {d : Nat} : ∀ {l : List ItT} {lt : List Nat} {p : Nat}, TyI d lt l → szB (genI jmp d l lt p) ≤ 13 * cntI d l + 2 * l.length + 2
  | [], lt, p, _ => by simp [genI, szB, sizeOp]
  | x :: r, lt, p, hT => by
    obtain ⟨hw, hty, hT⟩ := hT
    have ec : cntI d (x :: r) = cntT d x.c + cntI d r := by simp [cntI]
    have e5 : sizeOp 5 = 2 := rfl
    rcases hT with ⟨hk, hx, hT⟩ | ⟨hk, ht2, hx, hT⟩
    · rw [genI, if_pos hk, szB_app, szB_cons, ec]
      have h1 := gen_bytes (jmp := jmp) d (k := ⟨[], lt⟩) (m := none) (p := p) (T := 0) hw
      have h2 := genI_bytes (jmp := jmp) (p := p + szG jmp d none x.c + 1) hT
      simp only [e5, List.length_cons]
      omega
    · have hk11 : ¬ x.kind = 11 := by omega
      rw [genI, if_neg hk11, szB_app, szB_cons, ec]
      have h1 := gen_bytes (jmp := jmp) d (k := ⟨[], lt⟩) (m := some false) (p := p) (T := p + szG jmp d (some false) x.c + 1) hw
      have h2 := genI_bytes (jmp := jmp) (p := p + szG jmp d (some false) x.c + 1) hT
      have e : sizeOp (verdictOp x.kind) = 2 := by unfold verdictOp; split <;> rfl
      simp only [e, List.length_cons]
      omega
/-- Where an instruction's first byte lies. -/
def plF (F : List In4) (i : Nat) : Nat := 3 + szB (F.take i)
theorem plF_succ {F : List In4} {i : Nat} {x : In4} (h : F[i]? = some x) : plF F (i + 1) = plF F i + sizeOp x.op := by
  unfold plF
  have hi := (List.getElem?_eq_some_iff.1 h).1
  rw [List.take_add_one, h, szB_app]
  simp [szB_cons, szB_nil]; omega
theorem plF_le {F : List In4} {i j : Nat} (h : i ≤ j) : plF F i ≤ plF F j := by
  unfold plF
  have : F.take j = F.take i ++ (F.take j).drop i := by
    have := List.take_append_drop i (F.take j)
    rw [List.take_take, Nat.min_eq_left h] at this
    exact this.symm
  rw [this, szB_app]; omega
/-- An instruction's number: of a jump, how far it passes over. -/
def jnum (F : List In4) (i : Nat) (x : In4) : Int := if x.op = 15 ∨ x.op = 16 then (plF F x.to : Int) - plF F i - 3 else x.n
def qF (F : List In4) : List (Nat × Int) := F.mapIdx fun i x => (x.op, jnum F i x)
/-- The code of instructions. -/
def compB (dep cells : Nat) (F : List In4) : List UInt8 := [71, UInt8.ofNat dep, UInt8.ofNat cells] ++ ([] ++ bytesQ (qF F))
theorem qF_at {F : List In4} {i : Nat} {x : In4} (h : F[i]? = some x) : (qF F)[i]? = some (x.op, jnum F i x) := by
  unfold qF; rw [List.getElem?_mapIdx, h]; rfl
theorem qF_len (F : List In4) : (qF F).length = F.length := by simp [qF]
theorem qF_take (F : List In4) (i : Nat) : ((qF F).take i).map (fun q => sizeOp q.1) = (F.take i).map fun x => sizeOp x.op := by
  apply List.ext_getElem?
  intro j
  rw [List.getElem?_map, List.getElem?_map, List.getElem?_take, List.getElem?_take]
  split
  · cases e : F[j]? with
    | none => rw [List.getElem?_eq_none (by rw [qF_len]; exact List.getElem?_eq_none_iff.1 e)]; rfl
    | some x => rw [qF_at e]; rfl
  · rfl
theorem bytesQ_len {cells : Nat} : ∀ {Q : List (Nat × Int)}, (∀ q ∈ Q, sizeOp q.1 ≠ 0) → (bytesQ Q).length = (Q.map fun q => sizeOp q.1).sum
  | [], _ => rfl
  | q :: r, h => by
    rw [bytesQ_cons, List.length_append, encQ_len (h q (by simp)), bytesQ_len (cells := cells) (fun q hq => h q (by simp [hq]))]
    simp
theorem size_posC {op : Nat} (h : 1 ≤ op ∧ op ≤ 18) : sizeOp op ≠ 0 := by
  have e : op = 1 ∨ op = 2 ∨ op = 3 ∨ op = 4 ∨ op = 5 ∨ op = 6 ∨ op = 7 ∨ op = 8 ∨ op = 9 ∨ op = 10 ∨ op = 11 ∨ op = 12 ∨ op = 13 ∨ op = 14 ∨ op = 15 ∨ op = 16 ∨ op = 17 ∨ op = 18 := by omega
  rcases e with e | e | e | e | e | e | e | e | e | e | e | e | e | e | e | e | e | e <;> rw [e] <;> decide
end Go.Proofs.YtfkdailfcmnjlaaGreatDoor

namespace Go.Proofs.YtfkdailfcmnjlaaGreatDoor
open Go Go.RowKit
set_option maxRecDepth 100000

theorem len_szB : ∀ {F : List In4}, (∀ x ∈ F, 1 ≤ sizeOp x.op) → F.length ≤ szB F
  | [], _ => Nat.zero_le _
  | x :: r, h => by
    have h1 := h x (by simp)
    have h2 := len_szB (F := r) (fun x hx => h x (by simp [hx]))
    rw [szB_cons, List.length_cons]; omega
theorem code_of {F : List In4} {dep cells : Nat} (hC : AllCert F dep cells 0 F.length) (h0 : 0 < F.length) (hlen : szB F ≤ 3990) (hd : dep ≤ 24) (hc : cells ≤ 255) (hs : StartK F 0 ⟨[], List.replicate cells 0⟩) :
    loadOf (compB dep cells F) = some (insQ (qF F) 3) ∧ Lk F (insQ (qF F) 3) ∧ (compB dep cells F).length = 3 + szB F ∧ byteAt (compB dep cells F) 2 = cells := by
  have hsz : ∀ q ∈ qF F, sizeOp q.1 ≠ 0 := fun q hq => by
    obtain ⟨i, hi⟩ := List.mem_iff_getElem?.1 hq
    have hlt : i < F.length := by rw [← qF_len F]; exact (List.getElem?_eq_some_iff.1 hi).1
    have hx : F[i]? = some F[i] := List.getElem?_eq_getElem hlt
    rw [qF_at hx] at hi
    cases hi
    exact size_posC (hC i _ (Nat.zero_le _) hlt hx).num.ops
  have hpl : plF F F.length = 3 + szB F := by unfold plF; rw [List.take_length]
  have hBl : (compB dep cells F).length = 3 + szB F := by
    unfold compB
    rw [List.length_append, List.length_append, bytesQ_len (cells := cells) hsz]
    have := qF_take F F.length
    rw [List.take_of_length_le (by rw [qF_len]; exact Nat.le_refl _), List.take_length] at this
    rw [this]
    simp [szB]
  have hfit : ∀ q ∈ qF F, FitQ cells q := fun q hq => by
    obtain ⟨i, hi⟩ := List.mem_iff_getElem?.1 hq
    have hlt : i < F.length := by rw [← qF_len F]; exact (List.getElem?_eq_some_iff.1 hi).1
    have hx : F[i]? = some F[i] := List.getElem?_eq_getElem hlt
    rw [qF_at hx] at hi
    cases hi
    have c := hC i _ (Nat.zero_le _) hlt hx
    generalize F[i] = x at *
    obtain ⟨k', hdo, _, _, hj⟩ := c.doe
    by_cases g : x.op = 15 ∨ x.op = 16
    · have hs3 : sizeOp x.op = 3 := by rcases g with e | e <;> rw [e] <;> rfl
      obtain ⟨j1, y, j2, _⟩ := hj g
      have hto := (List.getElem?_eq_some_iff.1 j2).1
      have h1 := plF_le (F := F) (show i + 1 ≤ x.to by omega)
      have h2 := plF_le (F := F) (show x.to ≤ F.length by omega)
      rw [plF_succ hx, hs3] at h1
      have ejn : jnum F i x = (plF F x.to : Int) - plF F i - 3 := if_pos g
      exact ⟨⟨c.num.ops, fun e => by simp at e; omega, fun e => by simp at e; omega, fun e => by simp at e; omega⟩, fun _ => by simp only [ejn]; omega⟩
    · have ejn : jnum F i x = x.n := if_neg g
      have hs3 : ¬ sizeOp x.op = 3 := fun e => by
        unfold sizeOp at e
        (repeat' split at e) <;> omega
      exact ⟨by simp only [ejn]; exact c.num, fun e => absurd e hs3⟩
  have hb2 : byteAt (compB dep cells F) 2 = cells := by
    show (UInt8.ofNat cells).toNat = cells
    rw [UInt8.toNat_ofNat']; omega
  have hdec : dec ((compB dep cells F).length + 1) (compB dep cells F) 3 = some (insQ (qF F) 3) := by
    refine dec_bytes (cells := cells) (h3 := [71, UInt8.ofNat dep, UInt8.ofNat cells]) ?_ rfl (qF F) [] _ hfit ?_
    · show (UInt8.ofNat cells).toNat = cells
      rw [UInt8.toNat_ofNat']; omega
    · rw [hBl, qF_len]
      have : F.length ≤ szB F := by
        have hall : ∀ x ∈ F, 1 ≤ sizeOp x.op := fun x hx => by
          obtain ⟨i, hi⟩ := List.mem_iff_getElem?.1 hx
          have hlt : i < F.length := (List.getElem?_eq_some_iff.1 hi).1
          exact Nat.pos_of_ne_zero (size_posC (hC i _ (Nat.zero_le _) hlt hi).num.ops)
        exact len_szB hall
      omega
  have hok := dec_ok _ hdec (by rw [hBl]; omega)
  have hcode : CodeOK (compB dep cells F) (insQ (qF F) 3) := ⟨hok.1, hok.2⟩
  have hil : (insQ (qF F) 3).length = F.length := by rw [insQ_len, qF_len]
  have hat : ∀ i x, F[i]? = some x → (insQ (qF F) 3).getD i noIns = ⟨x.op, jnum F i x, plF F i⟩ := fun i x hx => by
    rw [insQ_at _ _ _ _ (qF_at hx), qF_take]; rfl
  have hL : Lk F (insQ (qF F) 3) := by
    refine ⟨hil, fun i x hx => by rw [hat i x hx], fun i x hx g => by rw [hat i x hx]; exact if_neg g, fun i x hx g => ?_⟩
    have hlt : i < F.length := (List.getElem?_eq_some_iff.1 hx).1
    obtain ⟨k', _, _, _, hj⟩ := (hC i x (Nat.zero_le _) hlt hx).doe
    obtain ⟨j1, y, j2, _⟩ := hj g
    have hto := (List.getElem?_eq_some_iff.1 j2).1
    have hs3 : sizeOp x.op = 3 := by rcases g with e | e <;> rw [e] <;> rfl
    have h1 := plF_le (F := F) (show i + 1 ≤ x.to by omega)
    rw [plF_succ hx, hs3] at h1
    have hji := jump_is (compB dep cells F) (insQ (qF F) 3) ((insQ (qF F) 3).getD i noIns)
    have ep : ((insQ (qF F) 3).getD i noIns).pl + 3 + ((insQ (qF F) 3).getD i noIns).n.toNat = plF F x.to := by
      rw [hat i x hx]
      have ejn : jnum F i x = (plF F x.to : Int) - plF F i - 3 := if_pos g
      simp only [ejn]; omega
    rw [ep] at hji
    have hyt := hat x.to y j2
    have hpt : ((insQ (qF F) 3).getD x.to noIns).pl = plF F x.to := by rw [hyt]
    cases e : jumpTo (insQ (qF F) 3) ((insQ (qF F) 3).getD i noIns) with
    | none =>
      rw [e] at hji
      exfalso
      rcases hji with g1 | g1
      · have := (pl_lt hcode (i := x.to) (by rw [hil]; exact hto)).2
        omega
      · rw [← hpt, beg_at (by rw [hil]; exact hto)] at g1; cases g1
    | some j =>
      rw [e] at hji
      obtain ⟨q1, q2⟩ := hji
      rw [pl_inj hcode q1 (by rw [hil]; exact hto) (by rw [q2, hpt])]
  refine ⟨?_, hL, hBl, hb2⟩
  have hb1 : byteAt (compB dep cells F) 1 = dep := by
    show (UInt8.ofNat dep).toNat = dep
    rw [UInt8.toNat_ofNat']; omega
  have hb0 : byteAt (compB dep cells F) 0 = 71 := rfl
  have h1 : 1 ≤ szB F := by
    cases F with
    | nil => simp at h0
    | cons x r =>
      have := size_posC (hC 0 x (Nat.zero_le _) (by simp) rfl).num.ops
      rw [szB_cons]; omega
  unfold loadOf
  rw [if_neg (by rw [hBl, hb0, hb1]; omega), hdec]
  simp only []
  have hfl := flow_cert hL hC F.length 0 (come0 cells F.length) (by omega) (fun j => by
    cases j with
    | zero =>
      obtain ⟨y, hy, hk⟩ := hs
      right
      rw [List.getD_eq_getElem?_getD, List.getD_eq_getElem?_getD, hy]
      simp [come0, hk]
    | succ j =>
      left
      unfold come0
      rw [List.getD_cons_succ, List.getD_eq_getElem?_getD, List.getElem?_replicate]
      split <;> rfl)
  rw [List.drop_zero] at hfl
  rw [hb1, hb2, hil, hfl]
  rfl
/-- Which cells there are. -/
def cellsI : List ItT → Nat → Nat
  | [], c => c
  | x :: r, c => cellsI r (if x.kind = 11 then x.wh + 1 else c)
def hdI (x : ItT) : Nat × Nat := (x.kind, x.wh)
def LtH (p q : Nat × Nat) : Prop := p.1 = 11 → q.1 = 11 → p.2 < q.2
theorem cellsI_ok : ∀ {l : List ItT} {c : Nat}, (l.map hdI).Pairwise LtH → (∀ x ∈ l, x.kind = 11 → c ≤ x.wh) → c ≤ cellsI l c ∧ ∀ x ∈ l, x.kind = 11 → x.wh < cellsI l c
  | [], c, _, _ => ⟨Nat.le_refl _, by simp⟩
  | x :: r, c, hp, hc => by
    rw [List.map_cons, List.pairwise_cons] at hp
    rw [cellsI]
    by_cases hk : x.kind = 11
    · rw [if_pos hk]
      obtain ⟨h1, h2⟩ := cellsI_ok (c := x.wh + 1) hp.2 (fun y hy hk' => by
        have := hp.1 (hdI y) (List.mem_map_of_mem hy) hk hk'
        exact this)
      have := hc x (by simp) hk
      refine ⟨by omega, fun y hy hk' => ?_⟩
      simp only [List.mem_cons] at hy
      rcases hy with rfl | hy
      · omega
      · exact h2 y hy hk'
    · rw [if_neg hk]
      obtain ⟨h1, h2⟩ := cellsI_ok (c := c) hp.2 (fun y hy => hc y (by simp [hy]))
      refine ⟨h1, fun y hy hk' => ?_⟩
      simp only [List.mem_cons] at hy
      rcases hy with rfl | hy
      · exact absurd hk' hk
      · exact h2 y hy hk'
theorem cellsI_le {l : List ItT} {m : Nat} (h : ∀ x ∈ l, x.kind = 11 → x.wh < m) : ∀ {c : Nat}, c ≤ m → cellsI l c ≤ m := by
  induction l with
  | nil => intro c hc; exact hc
  | cons x r ih =>
    intro c hc
    rw [cellsI]
    refine ih (fun y hy => h y (by simp [hy])) ?_
    split
    · rename_i hk; have := h x (by simp) hk; omega
    · exact hc
theorem ty_alike {lt lt' : List Nat} (h : ∀ i, lt'.getD i 0 = lt.getD i 0) (d : Nat) : ∀ t : Tr, tyTr lt' d t = tyTr lt d t := by
  induction d with
  | zero => intro t; rfl
  | succ d ih =>
    intro t
    rw [tyTr, tyTr, List.map_congr_left (fun c _ => ih c)]
    unfold wordTy
    rw [h]
theorem ev_alike {lv lv' fl : List Int} (h : ∀ i, lv'.getD i 0 = lv.getD i 0) (d : Nat) : ∀ t : Tr, evT lv' fl d t = evT lv fl d t := by
  induction d with
  | zero => intro t; rfl
  | succ d ih =>
    intro t
    rw [evT, evT, List.map_congr_left (fun c _ => ih c)]
    unfold wordT
    rw [h]
theorem getD_set_all {α : Type} {l l' : List α} {d : α} (h : ∀ i, l'.getD i d = l.getD i d) {j : Nat} (h1 : j < l.length) (h2 : j < l'.length) (v : α) : ∀ i, (l'.set j v).getD i d = (l.set j v).getD i d := fun i => by
  by_cases e : j = i
  · subst e; rw [getD_set_eq h1, getD_set_eq h2]
  · rw [getD_set_ne e, getD_set_ne e, h]
theorem TyI.other {d : Nat} : ∀ {l : List ItT} {lt lt' : List Nat}, TyI d lt l → (∀ i, lt'.getD i 0 = lt.getD i 0) → (∀ x ∈ l, x.kind = 11 → x.wh < lt'.length) → TyI d lt' l
  | [], _, _, _, _, _ => trivial
  | x :: r, lt, lt', h, hg, hw => by
    obtain ⟨h1, h2, h3⟩ := h
    have e := ty_alike hg d x.c
    refine ⟨h1, by rw [e]; exact h2, ?_⟩
    rcases h3 with ⟨hk, hx, hT⟩ | ⟨hk, ht2, hx, hT⟩
    · refine .inl ⟨hk, hw x (by simp) hk, TyI.other hT (by rw [e]; exact getD_set_all hg hx (hw x (by simp) hk) _) (fun y hy hy' => by rw [List.length_set]; exact hw y (by simp [hy]) hy')⟩
    · exact .inr ⟨hk, by rw [e]; exact ht2, hx, TyI.other hT hg (fun y hy => hw y (by simp [hy]))⟩
theorem mean_other {d : Nat} {fl : List Int} : ∀ {l : List ItT} {env env' : List Int}, (∀ i, env'.getD i 0 = env.getD i 0) → (∀ x ∈ l, x.kind = 11 → x.wh < env.length ∧ x.wh < env'.length) → meanT d fl env' l = meanT d fl env l
  | [], _, _, _, _ => rfl
  | x :: r, env, env', hg, hw => by
    rw [meanT, meanT, ev_alike hg]
    by_cases hk : x.kind = 11
    · rw [if_pos hk, if_pos hk]
      have := hw x (by simp) hk
      exact mean_other (getD_set_all hg this.1 this.2 _) (fun y hy hy' => by rw [List.length_set, List.length_set]; exact hw y (by simp [hy]) hy')
    · rw [if_neg hk, if_neg hk, mean_other hg (fun y hy => hw y (by simp [hy]))]
theorem tyI_wh {d : Nat} : ∀ {l : List ItT} {lt : List Nat}, TyI d lt l → ∀ x ∈ l, x.kind = 11 → x.wh < lt.length
  | [], _, _ => by simp
  | x :: r, lt, h => by
    obtain ⟨h1, h2, h3⟩ := h
    intro y hy hk
    simp only [List.mem_cons] at hy
    rcases h3 with ⟨hk', hx, hT⟩ | ⟨hk', ht2, hx, hT⟩
    · rcases hy with rfl | hy
      · exact hx
      · have := tyI_wh hT y hy hk; simpa using this
    · rcases hy with rfl | hy
      · omega
      · exact tyI_wh hT y hy hk
theorem rwI_sub {p : Pass} {d : Nat} : ∀ {l : List ItT} {lets : List Tr}, ((rwI p d lets l).map hdI).Sublist (l.map hdI)
  | [], _ => List.Sublist.slnil
  | x :: r, lets => by
    rw [rwI]
    split
    · exact (rwI_sub (l := r)).trans (List.sublist_cons_self _ _)
    · exact (rwI_sub (l := r)).cons_cons _
theorem reaT_sub : ∀ {l : List ItT}, (reaT l).Sublist l
  | [] => List.Sublist.slnil
  | x :: r => by
    rw [reaT]
    split
    · exact (reaT_sub (l := r)).trans (List.sublist_cons_self _ _)
    · split
      · exact (List.nil_sublist r).cons_cons _
      · exact (reaT_sub (l := r)).cons_cons _
theorem askT_sub {d : Nat} : ∀ {l : List ItT}, (askT d l).1.Sublist l
  | [] => List.Sublist.slnil
  | x :: r => by
    rw [askT]
    split
    · exact (askT_sub (l := r)).trans (List.sublist_cons_self _ _)
    · exact (askT_sub (l := r)).cons_cons _
theorem rewT_sub {p : Pass} {d : Nat} {l : List ItT} : ((rewT p d l).map hdI).Sublist (l.map hdI) := by
  unfold rewT
  split
  · exact ((askT_sub.trans reaT_sub).map hdI).trans rwI_sub
  · exact rwI_sub
theorem seq_pair : ∀ {l : List ItT} {m : Nat}, SeqI m l → (l.map hdI).Pairwise LtH ∧ ∀ x ∈ l, x.kind = 11 → m ≤ x.wh
  | [], _, _ => ⟨List.Pairwise.nil, by simp⟩
  | x :: r, m, h => by
    rcases h with ⟨hk, hx, h⟩ | ⟨hk, h⟩
    · obtain ⟨h1, h2⟩ := seq_pair h
      refine ⟨List.Pairwise.cons (fun y hy g1 g2 => ?_) h1, fun y hy g => ?_⟩
      · obtain ⟨z, hz, rfl⟩ := List.mem_map.1 hy
        have := h2 z hz g2
        show x.wh < z.wh
        omega
      · simp only [List.mem_cons] at hy
        rcases hy with rfl | hy
        · omega
        · have := h2 y hy g; omega
    · obtain ⟨h1, h2⟩ := seq_pair h
      refine ⟨List.Pairwise.cons (fun y hy g1 g2 => absurd g1 hk) h1, fun y hy g => ?_⟩
      simp only [List.mem_cons] at hy
      rcases hy with rfl | hy
      · exact absurd g hk
      · exact h2 y hy g
/-- The code of a policy. -/
def compOf (p : Pass) (d : Nat) (l : List ItT) : List UInt8 :=
  compB (dpI p.jmp d (rewT p d l)) (cellsI (rewT p d l) 0) (genI p.jmp d (rewT p d l) (List.replicate (cellsI (rewT p d l) 0) 0) 0)
theorem compOf_ok {p : Pass} {d : Nat} (hd : d ≤ 24) {l : List ItT} (hT : TyI d zeros10 l) (hS : SeqI 0 l) (hn : cntI d l ≤ 200) (hl : l.length ≤ 30) :
    ∃ ins, loadOf (compOf p d l) = some ins ∧ (compOf p d l).length ≤ 13 * cntI d l + 2 * l.length + 5 ∧ ∀ fl, FieldsT fl → ∃ s, judgeOf (compOf p d l) ins fl = some ((meanT d fl zeroV l).1, (meanT d fl zeroV l).2, s) := by
  have hR := fun fl (hF : FieldsT fl) => rewT_ok (p := p) hF hT hS
  obtain ⟨r1, _, r3, r4⟩ := hR zeros9 zeros_fields
  have hpw := (seq_pair hS).1.sublist (rewT_sub (p := p) (d := d) (l := l))
  have hwh := tyI_wh r1
  have hz10 : zeros10.length = 10 := rfl
  unfold compOf
  generalize rewT p d l = L at *
  have hcl : cellsI L 0 ≤ 10 := cellsI_le (fun x hx hk => by have := hwh x hx hk; omega) (by omega)
  have hcw := (cellsI_ok (c := 0) hpw (fun _ _ _ => Nat.zero_le _)).2
  generalize cellsI L 0 = C at *
  have hz : ∀ i, (List.replicate C 0).getD i 0 = zeros10.getD i 0 := fun i => by
    rw [zeros10_at, List.getD_eq_getElem?_getD, List.getElem?_replicate]; split <;> rfl
  have hT2 : TyI d (List.replicate C 0) L := r1.other hz (fun x hx hk => by rw [List.length_replicate]; exact hcw x hx hk)
  have hby := genI_bytes (jmp := p.jmp) (p := 0) hT2
  have hsub : Sub (genI p.jmp d L (List.replicate C 0) 0) 0 (genI p.jmp d L (List.replicate C 0) 0) := ⟨[], [], by simp, rfl⟩
  have hcert := genI_cert (jmp := p.jmp) (dep := dpI p.jmp d L) (cells := C) (by omega) hT2 (by simp) (Nat.le_refl _) hsub
  rw [Nat.zero_add] at hcert
  have hst := genI_start hT2 hsub
  have h0 : 0 < (genI p.jmp d L (List.replicate C 0) 0).length := by
    obtain ⟨y, hy, _⟩ := hst
    exact (List.getElem?_eq_some_iff.1 hy).1
  have hsz : szB (genI p.jmp d L (List.replicate C 0) 0) ≤ 3990 := by omega
  have hdp := dpI_le p.jmp d L
  obtain ⟨c1, c2, c3, c4⟩ := code_of hcert h0 hsz (by omega) (by omega) hst
  refine ⟨_, c1, by omega, fun fl hF => ?_⟩
  obtain ⟨a, r, s, hj, _⟩ := judge_ok c1 hF
  have hV : LetsT (List.replicate C 0) (List.replicate C (0 : Int)) := fun i hi => by
    rw [hz i, zeros10_at] at hi; exact absurd rfl hi
  have hsay := genI_says (jmp := p.jmp) hF hT2 (by simp) hV hsub
  have hj' := hj
  unfold judgeOf at hj'
  rw [c4] at hj'
  obtain ⟨q1, q2⟩ := says_run c2 hsay _ _ _ hj'
  have hme : meanT d fl (List.replicate C 0) L = meanT d fl zeroV l := by
    rw [← (hR fl hF).2.1]
    refine mean_other (fun i => ?_) (fun x hx hk => ⟨by have := hwh x hx hk; show x.wh < 10; omega, by rw [List.length_replicate]; exact hcw x hx hk⟩)
    rw [List.getD_eq_getElem?_getD, List.getElem?_replicate]
    have e10 : ∀ j, zeroV.getD j 0 = 0 := fun j => by
      unfold zeroV
      rw [List.getD_eq_getElem?_getD]
      rcases j with _ | _ | _ | _ | _ | _ | _ | _ | _ | _ | j <;> simp
    rw [e10]; split <;> rfl
  rw [hme] at q1 q2
  refine ⟨s, ?_⟩
  rw [hj]
  simp only [] at q1 q2
  rw [q1, q2]
end Go.Proofs.YtfkdailfcmnjlaaGreatDoor

namespace Go.Proofs.YtfkdailfcmnjlaaGreatDoor
open Go Go.RowKit
set_option maxRecDepth 100000

/-- A part over rewritten ones. -/
def rw0 (p : Pass) (lets : List Tr) (d : Nat) (t : Tr) : Tr := ⟨t.k, t.n, t.l, t.kids.map (rwT p lets d)⟩
def rw1 (p : Pass) (lets : List Tr) (d : Nat) (t : Tr) : Tr := if p.inl then inlineT lets (rw0 p lets d t) else rw0 p lets d t
def rw2 (p : Pass) (lets : List Tr) (d : Nat) (t : Tr) : Tr := if p.fol then foldT (d + 1) (rw1 p lets d t) else rw1 p lets d t
theorem rw1_alike {p : Pass} {lets : List Tr} {lt lt' : List Nat} {lv lv' fl : List Int} (hL : LetsOK p lets lt lt' lv lv' fl) (hV : LetsT lt' lv') (hF : FieldsT fl) {d : Nat} {t : Tr} (h : WfT (d + 1) t) (hty : tyTr lt (d + 1) t ≠ 0) : Alike lt lt' lv lv' fl (d + 1) t (rw1 p lets d t) := by
  unfold rw1 rw0
  have hkt := kids_ty h hty
  have hkid : ∀ c ∈ t.kids, Alike lt lt' lv lv' fl d c (rwT p lets d c) := fun c hc => rw_alike hL hV hF (h.2 c hc) (hkt c hc)
  have hmt : (t.kids.map (rwT p lets d)).map (tyTr lt' d) = t.kids.map (tyTr lt d) := by
    rw [List.map_map]; exact List.map_congr_left fun c hc => (hkid c hc).ty
  have hmv : (t.kids.map (rwT p lets d)).map (evT lv' fl d) = t.kids.map (evT lv fl d) := by
    rw [List.map_map]; exact List.map_congr_left fun c hc => (hkid c hc).ev
  have hw0 : WfT (d + 1) ⟨t.k, t.n, t.l, t.kids.map (rwT p lets d)⟩ := by
    refine ⟨?_, fun c hc => ?_⟩
    · rcases h.1 with ⟨h1, h2, h3, h4⟩ | ⟨h1, a, h2⟩ | ⟨h1, a, b, c, h2⟩ | ⟨h1, a, b, h2⟩
      · exact .inl ⟨h1, by rw [h2]; rfl, h3, h4⟩
      · exact .inr (.inl ⟨h1, _, by rw [h2]; rfl⟩)
      · exact .inr (.inr (.inl ⟨h1, _, _, _, by rw [h2]; rfl⟩))
      · exact .inr (.inr (.inr ⟨h1, _, _, by rw [h2]; rfl⟩))
    · obtain ⟨x, hx, rfl⟩ := List.mem_map.1 hc
      exact (hkid x hx).wf
  have hc0 : cntT (d + 1) ⟨t.k, t.n, t.l, t.kids.map (rwT p lets d)⟩ ≤ cntT (d + 1) t := by
    rw [cntT, cntT]
    simp only [List.map_map]
    have := sum_le_map (l := t.kids) (f := cntT d ∘ rwT p lets d) (g := cntT d) fun c hc => (hkid c hc).cnt
    omega
  have base : (t.k = 2 → lt'.getD t.l.toNat 0 = lt.getD t.l.toNat 0 ∧ lv'.getD t.l.toNat 0 = lv.getD t.l.toNat 0) → Alike lt lt' lv lv' fl (d + 1) t ⟨t.k, t.n, t.l, t.kids.map (rwT p lets d)⟩ := fun hl => by
    refine ⟨hw0, ?_, ?_, hc0⟩
    · rw [tyTr, tyTr]
      simp only [hmt, List.map_eq_nil_iff]
      have e : wordTy lt' ⟨t.k, t.n, t.l, t.kids.map (rwT p lets d)⟩ = wordTy lt t := by
        unfold wordTy
        simp only []
        by_cases h1 : t.k = 1
        · rw [if_pos h1, if_pos h1]
        · rw [if_neg h1, if_neg h1]
          by_cases h2 : t.k = 2
          · rw [if_pos h2, if_pos h2, (hl h2).1]
          · rw [if_neg h2, if_neg h2]
      rw [e]
    rw [evT, evT]
    simp only [hmv]
    congr 1
    unfold wordT
    simp only []
    by_cases h1 : t.k = 1
    · rw [if_pos h1, if_pos h1]
    · rw [if_neg h1, if_neg h1]
      by_cases h2 : t.k = 2
      · rw [if_pos h2, if_pos h2, (hl h2).2]
      · rw [if_neg h2, if_neg h2]
  have hown : t.k = 2 → t.kids = [] ∧ lt.getD t.l.toNat 0 ≠ 0 := fun h2 => by
    have hs := wf_leaf h (by unfold leafK; omega)
    refine ⟨hs, ?_⟩
    rw [tyTr, if_pos hs] at hty
    unfold wordTy at hty
    rwa [if_neg (by omega), if_pos h2] at hty
  by_cases hi : p.inl = true
  · rw [if_pos hi]
    unfold inlineT
    simp only []
    by_cases hc : t.k = 2 ∧ (lets.getD t.l.toNat noTr).kids = []
    · rw [if_pos hc]
      obtain ⟨hs, hlt⟩ := hown hc.1
      obtain ⟨o1, o2, o3⟩ := hL.one _ hlt hi hc.2
      refine ⟨o1.up (by omega), ?_, ?_, ?_⟩
      · rw [tyTr_up o1 (by omega), o2, tyTr, if_pos hs]
        unfold wordTy; rw [if_neg (by omega), if_pos hc.1]
      · rw [evT_up o1 (by omega), o3, evT, hs]
        show _ = wordT lv fl t
        unfold wordT; rw [if_neg (by omega), if_pos hc.1]
      · rw [cntT_up o1 (by omega), cntT, hc.2]
        have := cnt_pos h
        simpa using this
    · rw [if_neg hc]
      refine base fun h2 => ?_
      exact hL.same _ (hown h2).2 fun e => hc ⟨h2, e.2⟩
  · rw [if_neg hi]
    exact base fun h2 => hL.same _ (hown h2).2 fun e => hi e.1
theorem rw2_alike {p : Pass} {lets : List Tr} {lt lt' : List Nat} {lv lv' fl : List Int} (hL : LetsOK p lets lt lt' lv lv' fl) (hV : LetsT lt' lv') (hF : FieldsT fl) {d : Nat} {t : Tr} (h : WfT (d + 1) t) (hty : tyTr lt (d + 1) t ≠ 0) : Alike lt lt' lv lv' fl (d + 1) t (rw2 p lets d t) := by
  have hc := rw1_alike hL hV hF h hty
  unfold rw2
  split
  · exact hc.trans (fold_alike hV hF hc.wf (by rw [hc.ty]; exact hty))
  · exact hc
end Go.Proofs.YtfkdailfcmnjlaaGreatDoor
