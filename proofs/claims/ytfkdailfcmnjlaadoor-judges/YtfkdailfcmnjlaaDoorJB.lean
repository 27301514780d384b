/-
  Codes: a code that may be one never goes wrong, and ends within as many steps as it has instructions. Codes: with an instruction behind it that is not whole, a code is none. The program's values: scalars. The document's fields of an event in a state. The program's level of a user and what a user is to the room. The document's Fields.
-/
import Derived.Test.YtfkdailfcmnjlaaDoorJA
import Derived.Deep.RegionHeld3
set_option linter.unusedVariables false
set_option linter.unusedSimpArgs false
namespace Go.Proofs.YtfkdailfcmnjlaaDoor
open Go Go.RowKit
set_option maxRecDepth 100000

/-- A value of a type, by the type's number. -/
def HasT (t : Nat) (v : Int) : Prop := In64 v ∧ (t = 2 → v = 0 ∨ v = 1)
theorem hasT_truth (t : Nat) (b : Bool) : HasT t (truthI b) := by
  unfold truthI HasT In64; cases b <;> simp
def TypedS : List Nat → List Int → Prop
  | [], [] => True
  | t :: ts, v :: vs => HasT t v ∧ TypedS ts vs
  | _, _ => False
theorem TypedS.len : ∀ {ts : List Nat} {vs : List Int}, TypedS ts vs → vs.length = ts.length
  | [], [], _ => rfl
  | _ :: _, _ :: _, h => by simp [TypedS.len h.2]
  | [], _ :: _, h => h.elim
  | _ :: _, [], h => h.elim
theorem TypedS.cons {t : Nat} {ts : List Nat} {vs : List Int} (h : TypedS (t :: ts) vs) : ∃ v r, vs = v :: r ∧ HasT t v ∧ TypedS ts r := by
  cases vs with
  | nil => exact h.elim
  | cons v r => exact ⟨v, r, rfl, h.1, h.2⟩
def TypedC (ts : List Nat) (cl : List Int) : Prop := ∀ c, ts.getD c 0 ≠ 0 → HasT (ts.getD c 0) (cl.getD c 0)
theorem TypedC.less {a b : List Nat} {cl : List Int} (h : TypedC b cl) (hl : LeC a b) : TypedC a cl := fun c hc => by
  have e := hl c hc
  rw [e] at hc ⊢; exact h c hc
/-- The fields have their types. -/
def FieldsT (fl : List Int) : Prop := ∀ n, n ≤ 8 → HasT (fieldTy n) (fl.getD n 0)

/-- What is known of an instruction's number. -/
structure NumOK (cells : Nat) (x : Ins) : Prop where
  op : 1 ≤ x.op ∧ x.op ≤ 18
  int : x.op = 1 → In64 x.n
  two : sizeOp x.op = 2 → 0 ≤ x.n ∧ x.n ≤ boundOp x.op cells ∧ x.n ≤ 255
  jump : sizeOp x.op = 3 → 0 ≤ x.n ∧ x.n ≤ 65535
theorem num_ok {b : List UInt8} {x : Ins} (h : InsOK b x) : NumOK (byteAt b 2) x := by
  have hn : x.n = numAt b x.op x.pl := by have := h.here; rw [this]; rfl
  have hb : sizeOp x.op = 2 → x.n = (byteAt b (x.pl + 1) : Int) := fun hs => by
    rw [hn]; unfold numAt
    rw [if_neg (by intro e; rw [e] at hs; simp [sizeOp] at hs), hs]
    simp [beVal]
  refine ⟨size_op h.size, fun h1 => ?_, fun hs => ?_, fun hs => ?_⟩
  · rw [hn]; unfold numAt; rw [if_pos h1]
    exact signed_in (by have := beVal_lt b (x.pl + 1) 8; omega)
  · have := h.bound hs
    have := byte_lt b (x.pl + 1)
    rw [hb hs]; omega
  · rw [hn]; unfold numAt
    rw [if_neg (by intro e; rw [e] at hs; simp [sizeOp] at hs), hs]
    have := beVal_lt b (x.pl + 1) 2
    simp only [Nat.reduceSub]
    omega

theorem two_hasT (op t : Nat) (a b : Int) (h : op = 7 ∨ op = 8 → t ≠ 2) : HasT t (twoOp op a b) := by
  unfold twoOp
  by_cases h7 : op = 7
  · rw [if_pos h7]; exact ⟨clamp_in _, fun e => absurd e (h (.inl h7))⟩
  rw [if_neg h7]
  by_cases h8 : op = 8
  · rw [if_pos h8]; exact ⟨clamp_in _, fun e => absurd e (h (.inr h8))⟩
  rw [if_neg h8]
  (repeat' split) <;> exact hasT_truth _ _

/-- The stack and the cells are as known. -/
structure Fits (k : Kn) (cells : Nat) (st cl : List Int) : Prop where
  typ : TypedS k.st st
  cel : TypedC k.cl cl
  len : cl.length = cells
theorem takes_st {want more : List Nat} {k k' : Kn} (h : takesK want more k = some k') : k.st = want ++ k.st.drop want.length ∧ k' = ⟨more ++ k.st.drop want.length, k.cl⟩ := by
  unfold takesK at h
  by_cases e : k.st.take want.length = want
  · rw [if_pos e] at h; simp at h
    refine ⟨?_, h.symm⟩
    conv => lhs; rw [← List.take_append_drop want.length k.st, e]
  · rw [if_neg e] at h; simp at h
/-- A step keeps to what is known. -/
theorem step_fits {cells : Nat} {fl : List Int} {x : Ins} {k k' : Kn} {st cl : List Int} (hx : NumOK cells x) (hF : FieldsT fl) (h : Fits k cells st cl) (hd : doesK x.op x.n.toNat k = some k') (h17 : ¬ (x.op = 17 ∨ x.op = 18)) :
    ∃ st' cl' j, stepK fl x st cl = some (st', cl', j) ∧ Fits k' cells st' cl' ∧ (j = true → x.op = 15 ∨ x.op = 16) ∧ (x.op = 16 → j = true) := by
  obtain ⟨kst, kcl⟩ := k
  obtain ⟨hst, hcl, hln⟩ := h
  simp only [] at hst hcl
  have hop := hx.op
  unfold doesK at hd
  unfold stepK
  simp only [] at hd
  by_cases h1 : x.op = 1
  · rw [if_pos h1] at hd; simp at hd; subst hd
    rw [if_pos (.inl h1)]
    exact ⟨_, _, _, rfl, ⟨⟨⟨hx.int h1, fun e => by simp at e⟩, hst⟩, hcl, hln⟩, by simp, by omega⟩
  rw [if_neg h1] at hd
  by_cases h2 : x.op = 2
  · rw [if_pos h2] at hd; simp at hd; subst hd
    rw [if_pos (.inr (.inl h2))]
    have hb := hx.two (by rw [h2]; rfl)
    have e : boundOp x.op cells = 1 := by unfold boundOp; rw [if_pos h2]
    exact ⟨_, _, _, rfl, ⟨⟨⟨by unfold In64; omega, fun _ => by omega⟩, hst⟩, hcl, hln⟩, by simp, by omega⟩
  rw [if_neg h2] at hd
  by_cases h3 : x.op = 3
  · rw [if_pos h3] at hd; simp at hd; subst hd
    rw [if_pos (.inr (.inr h3))]
    have hb := hx.two (by rw [h3]; rfl)
    exact ⟨_, _, _, rfl, ⟨⟨⟨by unfold In64; omega, fun e => by simp at e⟩, hst⟩, hcl, hln⟩, by simp, by omega⟩
  rw [if_neg h3] at hd
  rw [if_neg (by omega)]
  by_cases h4 : x.op = 4
  · rw [if_pos h4] at hd; simp at hd; subst hd
    rw [if_pos h4]
    have hb := hx.two (by rw [h4]; rfl)
    have e : boundOp x.op cells = 8 := by rw [h4]; rfl
    exact ⟨_, _, _, rfl, ⟨⟨hF _ (by omega), hst⟩, hcl, hln⟩, by simp, by omega⟩
  rw [if_neg h4] at hd ⊢
  by_cases h5 : x.op = 5
  · rw [if_pos h5] at hd
    rw [if_pos h5]
    have hb := hx.two (by rw [h5]; rfl)
    have e : boundOp x.op cells = cells - 1 := by rw [h5]; rfl
    cases kst with
    | nil => simp at hd
    | cons t r =>
      simp at hd; subst hd
      obtain ⟨v, q, rfl, hv, hq⟩ := hst.cons
      refine ⟨_, _, _, rfl, ⟨hq, fun c hc => ?_, by simpa using hln⟩, by simp, by omega⟩
      simp only [] at hc ⊢
      by_cases he : x.n.toNat = c
      · subst he
        by_cases hkl : x.n.toNat < kcl.length
        · rw [getD_set_eq hkl, getD_set_eq (by omega)]; exact hv
        · exfalso; apply hc
          rw [List.getD_eq_getElem?_getD, List.getElem?_eq_none (by simpa using hkl)]; rfl
      · rw [getD_set_ne he] at hc ⊢
        rw [getD_set_ne he]; exact hcl c hc
  rw [if_neg h5] at hd ⊢
  by_cases h6 : x.op = 6
  · rw [if_pos h6] at hd
    rw [if_pos h6]
    by_cases hz : kcl.getD x.n.toNat 0 = 0
    · rw [if_pos hz] at hd; simp at hd
    · rw [if_neg hz] at hd; simp only [Option.some.injEq] at hd; subst hd
      exact ⟨_, _, _, rfl, ⟨⟨hcl _ hz, hst⟩, hcl, hln⟩, by simp, by omega⟩
  rw [if_neg h6] at hd ⊢
  have two : ∀ {a b c : Nat} {r : List Nat}, kst = a :: b :: r → k' = ⟨c :: r, kcl⟩ → (x.op = 7 ∨ x.op = 8 → c ≠ 2) → ∃ st' cl' j, (match st with
      | b :: a :: r => some (twoOp x.op a b :: r, cl, false)
      | _ => none) = some (st', cl', j) ∧ Fits k' cells st' cl' ∧ (j = true → x.op = 15 ∨ x.op = 16) := by
    intro a b c r e1 e2 hc
    subst e1; subst e2
    obtain ⟨v, q, rfl, hv, hq⟩ := hst.cons
    obtain ⟨u, q, rfl, hu, hq⟩ := hq.cons
    exact ⟨_, _, _, rfl, ⟨⟨two_hasT _ _ _ _ hc, hq⟩, hcl, hln⟩, by simp⟩
  have two' : ∀ {a b c : Nat} {r : List Nat}, x.op ≠ 12 → x.op ≠ 15 → x.op ≠ 16 → kst = a :: b :: r → k' = ⟨c :: r, kcl⟩ → (x.op = 7 ∨ x.op = 8 → c ≠ 2) → ∃ st' cl' j, (if x.op = 12 then (match st with
    | [] => none
    | v :: r => some ((1 - v) :: r, cl, false))
  else if x.op = 15 then (match st with
    | [] => none
    | v :: r => some (r, cl, v == 0))
  else if x.op = 16 then some (st, cl, true)
  else (match st with
    | b :: a :: r => some (twoOp x.op a b :: r, cl, false)
    | _ => none)) = some (st', cl', j) ∧ Fits k' cells st' cl' ∧ (j = true → x.op = 15 ∨ x.op = 16) ∧ (x.op = 16 → j = true) := by
    intro a b c r n1 n2 n3 e1 e2 hc
    rw [if_neg n1, if_neg n2, if_neg n3]
    obtain ⟨s', c', j, q1, q2, q3⟩ := two e1 e2 hc
    exact ⟨s', c', j, q1, q2, q3, fun e => absurd e n3⟩
  by_cases h7 : x.op = 7 ∨ x.op = 8
  · rw [if_pos h7] at hd
    obtain ⟨e1, e2⟩ := takes_st hd
    exact two' (by omega) (by omega) (by omega) e1 e2 (fun _ => by decide)
  rw [if_neg h7] at hd
  by_cases h9 : x.op = 9
  · rw [if_pos h9] at hd
    match kst, hd with
    | [], hd => simp at hd
    | [_], hd => simp at hd
    | a :: b :: r, hd =>
      simp only [] at hd
      by_cases he : a = b
      · rw [if_pos he] at hd; simp at hd
        exact two' (by omega) (by omega) (by omega) rfl hd.symm (fun e => absurd e h7)
      · rw [if_neg he] at hd; simp at hd
  rw [if_neg h9] at hd
  by_cases h10 : x.op = 10 ∨ x.op = 11
  · rw [if_pos h10] at hd
    obtain ⟨e1, e2⟩ := takes_st hd
    exact two' (by omega) (by omega) (by omega) e1 e2 (fun e => absurd e h7)
  rw [if_neg h10] at hd
  by_cases h12 : x.op = 12
  · rw [if_pos h12] at hd
    rw [if_pos h12]
    obtain ⟨e1, e2⟩ := takes_st hd
    simp only [] at e1 e2
    rw [e1] at hst
    subst e2
    obtain ⟨v, q, rfl, hv, hq⟩ := TypedS.cons hst
    have := hv.2 rfl
    refine ⟨_, _, _, rfl, ⟨⟨⟨by unfold In64; omega, fun _ => by omega⟩, hq⟩, hcl, hln⟩, by simp, by omega⟩
  rw [if_neg h12] at hd
  by_cases h13 : x.op = 13 ∨ x.op = 14
  · rw [if_pos h13] at hd
    obtain ⟨e1, e2⟩ := takes_st hd
    exact two' (by omega) (by omega) (by omega) e1 e2 (fun e => absurd e h7)
  rw [if_neg h13] at hd
  rw [if_neg h12]
  by_cases h15 : x.op = 15
  · rw [if_pos h15] at hd
    rw [if_pos h15]
    obtain ⟨e1, e2⟩ := takes_st hd
    simp only [] at e1 e2
    rw [e1] at hst
    subst e2
    obtain ⟨v, q, rfl, hv, hq⟩ := TypedS.cons hst
    exact ⟨_, _, _, rfl, ⟨hq, hcl, hln⟩, fun _ => .inl h15, by omega⟩
  rw [if_neg h15] at hd
  simp at hd; subst hd
  rw [if_neg h15, if_pos (by omega)]
  exact ⟨_, _, _, rfl, ⟨hst, hcl, hln⟩, fun _ => .inr (by omega), fun _ => rfl⟩

/-- The instruction behind a step. -/
theorem next_in {ins : List Ins} {i : Nat} {x : Ins} {j : Bool} (hj : j = true → x.op = 15 ∨ x.op = 16) (h16 : x.op = 16 → j = true) (h17 : ¬ (x.op = 17 ∨ x.op = 18)) : (if j then jumpTo ins x else (if i + 1 < ins.length then some (i + 1) else none)) ∈ leadsK ins i x := by
  unfold leadsK
  cases j with
  | true =>
    rcases hj rfl with h | h
    · rw [if_pos h]; simp
    · rw [if_neg (by omega), if_pos h]; simp
  | false =>
    have h1 : x.op ≠ 16 := fun e => by simpa using h16 e
    by_cases h : x.op = 15
    · rw [if_pos h]; simp
    · rw [if_neg h, if_neg h1, if_neg h17]; simp

theorem run_ok {b : List UInt8} {ins : List Ins} {depth cells : Nat} {fl : List Int} {C : Nat → Option Kn} (h : CodeOK b ins) (hc : byteAt b 2 = cells) (hF : FieldsT fl) (hG : Good ins depth 0 C) : ∀ (m i : Nat) (st cl : List Int) (n : Nat) (k : Kn), ins.length - i ≤ m → i < ins.length → C i = some k → Fits k cells st cl →
    ∃ a r s, runK ins fl m i st cl n = some (a, r, s) ∧ n < s ∧ s ≤ n + (ins.length - i) ∧ r ≤ 255 := by
  intro m
  induction m with
  | zero => intro i st cl n k h1 h2; omega
  | succ m ih =>
    intro i st cl n k hm hi hk hft
    rw [runK, if_pos hi]
    have hx := num_ok (h.each _ (getD_ins hi))
    rw [hc] at hx
    by_cases h17 : (ins.getD i noIns).op = 17 ∨ (ins.getD i noIns).op = 18
    · rw [if_pos h17]
      have h2 := hx.two (by rcases h17 with e | e <;> rw [e] <;> rfl)
      exact ⟨_, _, _, rfl, by omega, by omega, by omega⟩
    · rw [if_neg h17]
      obtain ⟨k', hd, hdp, hl⟩ := hG i (by omega) hi k hk
      obtain ⟨st', cl', j, hs, hft', hj, h16⟩ := step_fits hx hF hft hd h17
      rw [hs]
      have hnx := next_in (ins := ins) (i := i) hj h16 h17
      obtain ⟨q, e, h1, h2, h3⟩ := hl _ hnx
      obtain ⟨kq, e2, e3, e4⟩ := h3 k' rfl
      have hftq : Fits kq cells st' cl' := ⟨by rw [e3]; exact hft'.typ, hft'.cel.less e4, hft'.len⟩
      obtain ⟨a, r, s, i1, i2, i3, i4⟩ := ih q st' cl' (n + 1) kq (by omega) h2 e2 hftq
      cases j with
      | true =>
        have e : jumpTo ins (ins.getD i noIns) = some q := e
        simp only []
        rw [e]
        exact ⟨a, r, s, i1, by omega, by omega, i4⟩
      | false =>
        have e : (if i + 1 < ins.length then some (i + 1) else none) = some q := e
        split at e
        · simp at e; subst e
          exact ⟨a, r, s, i1, by omega, by omega, i4⟩
        · simp at e
theorem come0_len (cells n : Nat) (h : 0 < n) : (come0 cells n).length = n := by simp [come0]; omega
/-- What is known of a code that may be one. -/
theorem load_known {b : List UInt8} {ins : List Ins} (h : loadOf b = some ins) : 4 ≤ b.length ∧ b.length ≤ 4000 ∧ CodeOK b ins ∧ 0 < ins.length ∧ ins.length ≤ b.length ∧ byteAt b 1 ≤ 24 ∧ ∃ C : Nat → Option Kn, C 0 = some ⟨[], List.replicate (byteAt b 2) 0⟩ ∧ Good ins (byteAt b 1) 0 C := by
  unfold loadOf at h
  by_cases h1 : b.length < 4 ∨ 4000 < b.length ∨ byteAt b 0 ≠ 71 ∨ 24 < byteAt b 1
  · rw [if_pos h1] at h; simp at h
  rw [if_neg h1] at h
  cases hd : dec (b.length + 1) b 3 with
  | none => rw [hd] at h; simp at h
  | some q =>
    rw [hd] at h
    simp only [] at h
    by_cases hf : flowK q (byteAt b 1) q 0 (come0 (byteAt b 2) q.length) = true
    · rw [if_pos hf] at h; simp at h; subst h
      obtain ⟨d1, d2⟩ := dec_ok _ hd (by omega)
      have hc : CodeOK b q := ⟨d1, d2⟩
      have hle := (behind_le (fun x hx => (d1 x hx).size) d2).1
      have hpos : 0 < q.length := by
        cases q with
        | nil => unfold Behind at d2; omega
        | cons x r => simp
      obtain ⟨C, c1, c2, c3⟩ := flow_good hc (byteAt b 1) _ 0 (come0 (byteAt b 2) q.length) rfl (come0_len _ _ hpos) hf
      exact ⟨by omega, by omega, hc, hpos, by omega, by omega, C, (c1 0 (Nat.le_refl _)).trans rfl, c3⟩
    · rw [if_neg hf] at h; simp at h
/-- What the machine ends with. -/
def judgeOf (b : List UInt8) (ins : List Ins) (fl : List Int) : Option (Bool × Nat × Nat) := runK ins fl ins.length 0 [] (List.replicate (byteAt b 2) 0) 0
theorem judge_ok {b : List UInt8} {ins : List Ins} {fl : List Int} (h : loadOf b = some ins) (hF : FieldsT fl) : ∃ a r s, judgeOf b ins fl = some (a, r, s) ∧ 0 < s ∧ s ≤ b.length ∧ r ≤ 255 := by
  obtain ⟨h1, h2, h3, h4, h5, h6, C, h7, h8⟩ := load_known h
  obtain ⟨a, r, s, e, i1, i2, i3⟩ := run_ok h3 rfl hF h8 ins.length 0 [] (List.replicate (byteAt b 2) 0) 0 _ (by omega) h4 h7 ⟨trivial, fun c hc => by
    exfalso; apply hc
    simp [List.getD_eq_getElem?_getD, List.getElem?_replicate]
    split <;> rfl, by simp⟩
  exact ⟨a, r, s, e, i1, by omega, i3⟩
end Go.Proofs.YtfkdailfcmnjlaaDoor

namespace Go.Proofs.YtfkdailfcmnjlaaDoor
open Go Go.RowKit
set_option maxRecDepth 100000

theorem byte_app {b c : List UInt8} {i : Nat} (h : i < b.length) : byteAt (b ++ c) i = byteAt b i := by
  unfold byteAt; rw [List.getD_eq_getElem?_getD, List.getD_eq_getElem?_getD, List.getElem?_append_left h]
theorem dec_more {b : List UInt8} (f : Nat) : ∀ {a : Nat} {ins : List Ins}, dec f b a = some ins → a ≤ b.length → ∀ f', dec f' (b ++ [17]) a = none := by
  induction f with
  | zero => intro a ins h; simp [dec] at h
  | succ f ih =>
    intro a ins h ha f'
    cases f' with
    | zero => rfl
    | succ f' =>
      rw [dec] at h ⊢
      by_cases h1 : b.length ≤ a
      · have e : a = b.length := by omega
        subst e
        have e17 : byteAt (b ++ [17]) b.length = 17 := by unfold byteAt; simp [List.getD_eq_getElem?_getD]
        rw [if_neg (by simp), if_neg]
        rw [e17]
        intro hc
        have := hc.2.1
        simp [sizeOp] at this
      · rw [if_neg h1] at h
        rw [if_neg (by simp; omega), byte_app (by omega)]
        by_cases h2 : sizeOp (byteAt b a) ≠ 0 ∧ a + sizeOp (byteAt b a) ≤ b.length ∧ (sizeOp (byteAt b a) = 2 → (byteAt b (a + 1) : Int) ≤ boundOp (byteAt b a) (byteAt b 2))
        · rw [if_pos h2] at h
          cases hd : dec f b (a + sizeOp (byteAt b a)) with
          | none => rw [hd] at h; simp at h
          | some r =>
            have := ih hd h2.2.1 f'
            rw [this]
            split <;> rfl
        · rw [if_neg h2] at h; simp at h
theorem load_more {b : List UInt8} {ins : List Ins} (h : loadOf b = some ins) : loadOf (b ++ [17]) = none := by
  have h4 := (load_known h).1
  unfold loadOf at h ⊢
  split at h
  · simp at h
  · split
    · rfl
    · cases hd : dec (b.length + 1) b 3 with
      | none => rw [hd] at h; simp at h
      | some q => rw [dec_more _ hd (by omega)]
end Go.Proofs.YtfkdailfcmnjlaaDoor

namespace Go.Proofs.YtfkdailfcmnjlaaDoor
open Go Go.RowKit
set_option maxRecDepth 100000
attribute [local go_sem ↓] Go.wp_at_zero Go.wp_at_succ

set_option maxHeartbeats 1000000 in
theorem ptruth_any (b : Bool) (w : World) : Calls Tryd.prog 35 #[.bool b] w fun e w' => e = .returned (.int .i64 (truthI b)) ∧ w' = w := by
  cases b
  all_goals
    go_enter Tryd.func35, Tryd.ntmps35
    go_wp2_with fail
    go_ret
    exact ⟨rfl, rfl⟩
set_option maxHeartbeats 1000000 in
theorem pmember_any (n : Int) (w : World) : Calls Tryd.prog 34 #[.int .i64 n] w fun e w' => e = .returned (.int .i64 (knownI n)) ∧ w' = w := by
  by_cases h0 : n < 0
  · have HC : Hid (knownI n = 0) := by show _ = _; unfold knownI; rw [if_pos (.inl h0)]
    go_enter Tryd.func34, Tryd.ntmps34
    go_wp2_with fail
    go_ret
    exact ⟨by rw [HC.out]; rfl, rfl⟩
  · by_cases h4 : 4 < n
    · have HC : Hid (knownI n = 0) := by show _ = _; unfold knownI; rw [if_pos (.inr h4)]
      go_enter Tryd.func34, Tryd.ntmps34
      go_wp2_with fail
      go_ret
      exact ⟨by rw [HC.out]; rfl, rfl⟩
    · have HC : Hid (knownI n = n) := by show _ = _; unfold knownI; rw [if_neg (by omega)]
      go_enter Tryd.func34, Tryd.ntmps34
      go_wp2_with fail
      go_ret
      exact ⟨by rw [HC.out]; rfl, rfl⟩

set_option maxHeartbeats 1000000 in
theorem pequal_any (a b : Int) (w : World) : Calls Tryd.prog 83 #[.int .i64 a, .int .i64 b] w fun e w' => e = .returned (.int .i64 (truthI (a == b))) ∧ w' = w := by
  have W1 := fun w => ptruth_any (a == b) w
  generalize hv : truthI (a == b) = r at *
  clear hv
  go_enter Tryd.func83, Tryd.ntmps83
  go_wp2_with fail
  refine (W1 _).mono ?_
  rintro e w1 ⟨rfl, rfl⟩
  clear W1
  go_wp2_with fail
  go_ret
  exact ⟨rfl, rfl⟩

set_option maxHeartbeats 1000000 in
theorem pless_any (a b : Int) (w : World) : Calls Tryd.prog 84 #[.int .i64 a, .int .i64 b] w fun e w' => e = .returned (.int .i64 (truthI (decide (a < b)))) ∧ w' = w := by
  have W1 := fun w => ptruth_any (decide (a < b)) w
  generalize hv : truthI (decide (a < b)) = r at *
  clear hv
  go_enter Tryd.func84, Tryd.ntmps84
  go_wp2_with fail
  refine (W1 _).mono ?_
  rintro e w1 ⟨rfl, rfl⟩
  clear W1
  go_wp2_with fail
  go_ret
  exact ⟨rfl, rfl⟩

set_option maxHeartbeats 1000000 in
theorem patmost_any (a b : Int) (w : World) : Calls Tryd.prog 85 #[.int .i64 a, .int .i64 b] w fun e w' => e = .returned (.int .i64 (truthI (decide (a ≤ b)))) ∧ w' = w := by
  have W1 := fun w => ptruth_any (decide (a ≤ b)) w
  generalize hv : truthI (decide (a ≤ b)) = r at *
  clear hv
  go_enter Tryd.func85, Tryd.ntmps85
  go_wp2_with fail
  refine (W1 _).mono ?_
  rintro e w1 ⟨rfl, rfl⟩
  clear W1
  go_wp2_with fail
  go_ret
  exact ⟨rfl, rfl⟩

set_option maxHeartbeats 1000000 in
theorem pand_any (a b : Int) (w : World) : Calls Tryd.prog 87 #[.int .i64 a, .int .i64 b] w fun e w' => e = .returned (.int .i64 (truthI (a == 1 && b == 1))) ∧ w' = w := by
  have W1 := fun w b => ptruth_any b w
  cases hx : (a == 1)
  all_goals
    cases hy : (b == 1)
  all_goals
    go_enter Tryd.func87, Tryd.ntmps87
    go_wp2_with fail
    refine (W1 _ _).mono ?_
    rintro e w1 ⟨rfl, rfl⟩
    clear W1
    go_wp2_with fail
    go_ret
    exact ⟨rfl, rfl⟩

set_option maxHeartbeats 1000000 in
theorem por_any (a b : Int) (w : World) : Calls Tryd.prog 88 #[.int .i64 a, .int .i64 b] w fun e w' => e = .returned (.int .i64 (truthI (a == 1 || b == 1))) ∧ w' = w := by
  have W1 := fun w b => ptruth_any b w
  cases hx : (a == 1)
  all_goals
    cases hy : (b == 1)
  all_goals
    go_enter Tryd.func88, Tryd.ntmps88
    go_wp2_with fail
    refine (W1 _ _).mono ?_
    rintro e w1 ⟨rfl, rfl⟩
    clear W1
    go_wp2_with fail
    go_ret
    exact ⟨rfl, rfl⟩

set_option maxHeartbeats 1000000 in
theorem pnot_any {a : Int} (ha : a = 0 ∨ a = 1) (w : World) : Calls Tryd.prog 86 #[.int .i64 a] w fun e w' => e = .returned (.int .i64 (1 - a)) ∧ w' = w := by
  have W1 := fun w b => ptruth_any b w
  rcases ha with rfl | rfl
  all_goals
    go_enter Tryd.func86, Tryd.ntmps86
    go_wp2_with fail
    refine (W1 _ _).mono ?_
    rintro e w1 ⟨rfl, rfl⟩
    clear W1
    go_wp2_with fail
    go_ret
    exact ⟨rfl, rfl⟩
end Go.Proofs.YtfkdailfcmnjlaaDoor

namespace Go.Proofs.YtfkdailfcmnjlaaDoor
open Go Go.RowKit
set_option maxRecDepth 100000
attribute [local go_sem ↓] Go.wp_at_zero Go.wp_at_succ

/-- A list of users with a number each, at a slice. -/
def PairsAt (v : Value) (ls : List (List UInt8 × Int)) (w : World) : Prop :=
  ls.length ≤ maxLen ∧ ∃ a cap, v = .slice a ls.length cap ∧ ∀ i, i < ls.length → ∃ b o, a = some ⟨b, o, none⟩ ∧ w.cell? ⟨b, o + i * 2, none⟩ = some (S (ls.getD i ([], 0)).1) ∧ w.cell? ⟨b, o + i * 2 + 1, none⟩ = some (.int .i64 (ls.getD i ([], 0)).2) ∧ In64 (ls.getD i ([], 0)).2
theorem PairsAt.below {v : Value} {ls : List (List UInt8 × Int)} {w w' : World} (h : PairsAt v ls w) (hb : Below w.heap.size w w') : PairsAt v ls w' := by
  obtain ⟨h0, a, cap, h1, h2⟩ := h
  refine ⟨h0, a, cap, h1, fun i hi => ?_⟩
  obtain ⟨b, o, e, c0, c1, hn⟩ := h2 i hi
  refine ⟨b, o, e, ?_, ?_, hn⟩
  · rw [hb.cell (p := ⟨b, o + i * 2, none⟩) (World.block_lt_of_cell? w _ c0)]; exact c0
  · rw [hb.cell (p := ⟨b, o + i * 2 + 1, none⟩) (World.block_lt_of_cell? w _ c1)]; exact c1
/-- The first entry of a user counts. -/
def firstI (df : Int) (ls : List (List UInt8 × Int)) (u : List UInt8) : Int := match ls with
  | [] => df
  | x :: r => if x.1 == u then x.2 else firstI df r u
theorem first_step (df : Int) (ls : List (List UInt8 × Int)) (u : List UInt8) (i : Nat) (h : i < ls.length) : firstI df (ls.drop i) u = if (ls.getD i ([], 0)).1 == u then (ls.getD i ([], 0)).2 else firstI df (ls.drop (i + 1)) u := by
  rw [List.drop_eq_getElem_cons h, firstI, List.getD_eq_getElem?_getD, List.getElem?_eq_getElem h]; rfl

set_option maxHeartbeats 4000000 in
theorem level_any {lv mv : Value} {df : Int} {op : Bool} {ls : List (List UInt8 × Int)} (u : List UInt8) (w : World) (h : PairsAt lv ls w) :
    Calls Tryd.prog 45 #[.agg #[lv, .int .i64 df, mv, .bool op], S u] w fun e w' => e = .returned (.int .i64 (firstI df ls u)) ∧ Below w.heap.size w w' := by
  obtain ⟨hm, a, cap, rfl, hc⟩ := h
  unfold maxLen at hm
  have hb := (Below.refl w.heap.size w).alloc (Nat.le_refl _) (.cells #[.slice a ls.length cap, .int .i64 df, mv, .bool op] 27)
  have hx : (w.alloc (.cells #[.slice a ls.length cap, .int .i64 df, mv, .bool op] 27)).heap[w.heap.size]? = some (.cells #[.slice a ls.length cap, .int .i64 df, mv, .bool op] 27 (0, 0)) := heap_alloc_new w _
  have H0 : Hid _ := And.intro hb hx
  have HC : Hid _ := hc
  clear hb hx hc
  go_enter Tryd.func45, Tryd.ntmps45
  go_wp2_with fail
  obtain ⟨hbw, hxw⟩ := H0.out
  clear H0
  generalize hwz : w.alloc (.cells #[.slice a ls.length cap, .int .i64 df, mv, .bool op] 27) = wz at *
  clear hwz
  have q0 := cell_of_row wz w.heap.size 0 _ _ _ hxw
  simp only [List.getElem?_toArray, List.getElem?_cons_zero, List.getElem?_cons_succ] at q0
  have HB : Hid _ := hbw
  go_loop [5, 6] (fun n i => ∃ j, j ≤ ls.length ∧ i = .int .i64 ((j : Int) - 1) ∧ ∃ v, n = .int .i64 v ∧ Hid (v = firstI df (ls.drop j) u)) (fun _ i => (intOf i + 1).toNat)
  case atStart => exact ⟨ls.length, Nat.le_refl _, rfl, df, rfl, by show _ = _; rw [List.drop_length]; rfl⟩
  case round =>
    obtain ⟨j, hj, rfl, v, rfl, HV⟩ := hrel
    by_cases h0 : j = 0
    · subst h0
      go_wp2_with fail
      go_ret
      exact ⟨by rw [HV.out]; rfl, HB.out⟩
    · obtain ⟨q, rfl⟩ : ∃ q, j = q + 1 := ⟨j - 1, by omega⟩
      obtain ⟨b, o, rfl, c0, c1, hn⟩ := HC.out q (by omega)
      have HS : Hid _ := first_step df ls u q (by omega)
      have c0' : wz.cell? ⟨b, o + q * 2, none⟩ = some (S (ls.getD q ([], 0)).1) := by rw [hbw.cell (p := ⟨b, o + q * 2, none⟩) (World.block_lt_of_cell? w _ c0)]; exact c0
      have c1' : wz.cell? ⟨b, o + q * 2 + 1, none⟩ = some (.int .i64 (ls.getD q ([], 0)).2) := by rw [hbw.cell (p := ⟨b, o + q * 2 + 1, none⟩) (World.block_lt_of_cell? w _ c1)]; exact c1
      have ei : ((q + 1 : Nat) : Int) - 1 = (q : Int) := by omega
      have b1 : (q : Int) < (ls.length : Int) := by omega
      rw [ei]
      clear c0 c1 h0 ei
      generalize ls.getD q ([], 0) = x at *
      cases hx : (x.1 == u) with
      | true =>
        have HS2 : Hid (firstI df (ls.drop q) u = x.2) := by show _ = _; rw [HS.out, if_pos hx]
        clear HS
        go_wp2_with fail
        go_round
        case rel => exact ⟨q, by omega, by simp, x.2, rfl, HS2.out.symm⟩
        case measure => simp [intOf]
      | false =>
        have HS2 : Hid (firstI df (ls.drop q) u = v) := by show _ = _; rw [HS.out, if_neg (by rw [hx]; simp), HV.out]
        clear HS
        go_wp2_with fail
        go_round
        case rel => exact ⟨q, by omega, by simp, v, rfl, HS2.out.symm⟩
        case measure => simp [intOf]
/-- What a user is to the room. -/
def firstK (ls : List (List UInt8 × Int)) (u : List UInt8) : Int := match ls with
  | [] => 0
  | x :: r => if x.1 == u then knownI x.2 else firstK r u
theorem firstK_step (ls : List (List UInt8 × Int)) (u : List UInt8) (i : Nat) (h : i < ls.length) : firstK (ls.drop i) u = if (ls.getD i ([], 0)).1 == u then knownI (ls.getD i ([], 0)).2 else firstK (ls.drop (i + 1)) u := by
  rw [List.drop_eq_getElem_cons h, firstK, List.getD_eq_getElem?_getD, List.getElem?_eq_getElem h]; rfl

set_option maxHeartbeats 4000000 in
theorem is_any {lv mv : Value} {df : Int} {op : Bool} {ls : List (List UInt8 × Int)} (u : List UInt8) (w : World) (h : PairsAt mv ls w) :
    Calls Tryd.prog 46 #[.agg #[lv, .int .i64 df, mv, .bool op], S u] w fun e w' => e = .returned (.int .i64 (firstK ls u)) ∧ Below w.heap.size w w' := by
  obtain ⟨hm, a, cap, rfl, hc⟩ := h
  unfold maxLen at hm
  have hb := (Below.refl w.heap.size w).alloc (Nat.le_refl _) (.cells #[lv, .int .i64 df, .slice a ls.length cap, .bool op] 27)
  have hx : (w.alloc (.cells #[lv, .int .i64 df, .slice a ls.length cap, .bool op] 27)).heap[w.heap.size]? = some (.cells #[lv, .int .i64 df, .slice a ls.length cap, .bool op] 27 (0, 0)) := heap_alloc_new w _
  have H0 : Hid _ := And.intro hb hx
  have HC : Hid _ := hc
  clear hb hx hc
  go_enter Tryd.func46, Tryd.ntmps46
  go_wp2_with fail
  obtain ⟨hbw, hxw⟩ := H0.out
  clear H0
  generalize hwz : w.alloc (.cells #[lv, .int .i64 df, .slice a ls.length cap, .bool op] 27) = wz at *
  clear hwz
  have q0 := cell_of_row wz w.heap.size 2 _ _ _ hxw
  simp only [List.getElem?_toArray, List.getElem?_cons_zero, List.getElem?_cons_succ] at q0
  have HB : Hid _ := hbw
  go_loop [5, 6] (fun n i => ∃ j, j ≤ ls.length ∧ i = .int .i64 ((j : Int) - 1) ∧ ∃ v, n = .int .i64 v ∧ Hid (v = firstK (ls.drop j) u)) (fun _ i => (intOf i + 1).toNat)
  case atStart => exact ⟨ls.length, Nat.le_refl _, rfl, 0, rfl, by show _ = _; rw [List.drop_length]; rfl⟩
  case round =>
    obtain ⟨j, hj, rfl, v, rfl, HV⟩ := hrel
    by_cases h0 : j = 0
    · subst h0
      go_wp2_with fail
      go_ret
      exact ⟨by rw [HV.out]; rfl, HB.out⟩
    · obtain ⟨q, rfl⟩ : ∃ q, j = q + 1 := ⟨j - 1, by omega⟩
      obtain ⟨b, o, rfl, c0, c1, hn⟩ := HC.out q (by omega)
      have HS : Hid _ := firstK_step ls u q (by omega)
      have c0' : wz.cell? ⟨b, o + q * 2, none⟩ = some (S (ls.getD q ([], 0)).1) := by rw [hbw.cell (p := ⟨b, o + q * 2, none⟩) (World.block_lt_of_cell? w _ c0)]; exact c0
      have c1' : wz.cell? ⟨b, o + q * 2 + 1, none⟩ = some (.int .i64 (ls.getD q ([], 0)).2) := by rw [hbw.cell (p := ⟨b, o + q * 2 + 1, none⟩) (World.block_lt_of_cell? w _ c1)]; exact c1
      have ei : ((q + 1 : Nat) : Int) - 1 = (q : Int) := by omega
      have b1 : (q : Int) < (ls.length : Int) := by omega
      rw [ei]
      clear c0 c1 h0 ei
      generalize ls.getD q ([], 0) = x at *
      cases hx : (x.1 == u) with
      | true =>
        have HS2 : Hid (firstK (ls.drop q) u = knownI x.2) := by show _ = _; rw [HS.out, if_pos hx]
        have WK := fun W => known_any hn W
        generalize knownI x.2 = kx at *
        clear HS
        go_wp2_with fail
        refine (WK _).mono ?_
        rintro e w5 ⟨rfl, rfl⟩
        clear WK
        go_wp2_with fail
        go_round
        case rel => exact ⟨q, by omega, by simp, kx, rfl, HS2.out.symm⟩
        case measure => simp [intOf]
      | false =>
        have HS2 : Hid (firstK (ls.drop q) u = v) := by show _ = _; rw [HS.out, if_neg (by rw [hx]; simp), HV.out]
        clear HS
        go_wp2_with fail
        go_round
        case rel => exact ⟨q, by omega, by simp, v, rfl, HS2.out.symm⟩
        case measure => simp [intOf]
end Go.Proofs.YtfkdailfcmnjlaaDoor

namespace Go.Proofs.YtfkdailfcmnjlaaDoor
open Go Go.RowKit
set_option maxRecDepth 100000
attribute [local go_sem ↓] Go.wp_at_zero Go.wp_at_succ

set_option maxHeartbeats 4000000 in
theorem plevel_any {lv mv : Value} {df : Int} {op : Bool} {ls : List (List UInt8 × Int)} (u : List UInt8) (w : World) (h : PairsAt lv ls w) :
    Calls Tryd.prog 32 #[.agg #[lv, .int .i64 df, mv, .bool op], S u] w fun e w' => e = .returned (.int .i64 (firstI df ls u)) ∧ Below w.heap.size w w' := by
  obtain ⟨hm, a, cap, rfl, hc⟩ := h
  unfold maxLen at hm
  have hb := (Below.refl w.heap.size w).alloc (Nat.le_refl _) (.cells #[.slice a ls.length cap, .int .i64 df, mv, .bool op] 27)
  have hx : (w.alloc (.cells #[.slice a ls.length cap, .int .i64 df, mv, .bool op] 27)).heap[w.heap.size]? = some (.cells #[.slice a ls.length cap, .int .i64 df, mv, .bool op] 27 (0, 0)) := heap_alloc_new w _
  have H0 : Hid _ := And.intro hb hx
  have HC : Hid _ := hc
  clear hb hx hc
  go_enter Tryd.func32, Tryd.ntmps32
  go_wp2_with fail
  obtain ⟨hb0, hx0⟩ := H0.out
  clear H0
  generalize w.alloc (.cells #[.slice a ls.length cap, .int .i64 df, mv, .bool op] 27) = wz at *
  go_loopw [10] (fun i wr => ∃ j, j ≤ ls.length ∧ i = .int .i64 j ∧ Hid (firstI df ls u = firstI df (ls.drop j) u) ∧ Below w.heap.size w wr ∧ wr.heap[w.heap.size]? = some (.cells #[.slice a ls.length cap, .int .i64 df, mv, .bool op] 27 (0, 0))) (fun i _ => ls.length - (intOf i).toNat)
  case atStart => exact ⟨0, Nat.zero_le _, rfl, rfl, hb0, hx0⟩
  case round =>
    obtain ⟨j, hj, rfl, HV, hbw, hxw⟩ := hrel
    have q1 := cell_of_row wr w.heap.size 1 _ _ _ hxw
    simp only [List.getElem?_toArray, List.getElem?_cons_zero, List.getElem?_cons_succ] at q1
    clear hb0 hx0
    by_cases hlt : j < ls.length
    · obtain ⟨b, o, rfl, c0, c1, hn⟩ := HC.out j hlt
      have HS : Hid _ := first_step df ls u j hlt
      have c0' : wr.cell? ⟨b, o + j * 2, none⟩ = some (S (ls.getD j ([], 0)).1) := by rw [hbw.cell (p := ⟨b, o + j * 2, none⟩) (World.block_lt_of_cell? w _ c0)]; exact c0
      have c1' : wr.cell? ⟨b, o + j * 2 + 1, none⟩ = some (.int .i64 (ls.getD j ([], 0)).2) := by rw [hbw.cell (p := ⟨b, o + j * 2 + 1, none⟩) (World.block_lt_of_cell? w _ c1)]; exact c1
      have lb := World.block_lt_of_cell? wr _ c0'
      simp only at lb
      have b0 : (0 : Int) ≤ (j : Int) := by omega
      have b1 : (j : Int) < (ls.length : Int) := by omega
      have ne1 : wr.heap.size ≠ b := by omega
      clear c0 c1
      generalize ls.getD j ([], 0) = x at *
      have hbA : Hid (Below w.heap.size w (wr.alloc (.cells #[S x.1, .int .i64 x.2] 77))) := hbw.alloc hbw.size _
      have hxA : Hid ((wr.alloc (.cells #[S x.1, .int .i64 x.2] 77)).heap[w.heap.size]? = some (.cells #[.slice (some ⟨b, o, none⟩) ls.length cap, .int .i64 df, mv, .bool op] 27 (0, 0))) := by show _ = _; rw [Below.heap_alloc _ _ _ (lt_of_get hxw)]; exact hxw
      clear hbw hxw
      cases hx : (x.1 == u) with
      | true =>
        have HS2 : Hid (firstI df ls u = x.2) := by show _ = _; rw [HV.out, HS.out, if_pos hx]
        clear HS HV
        go_wp2_with fail
        go_ret
        exact ⟨by rw [HS2.out]; rfl, hbA.out⟩
      | false =>
        have HS2 : Hid (firstI df ls u = firstI df (ls.drop (j + 1)) u) := by show _ = _; rw [HV.out, HS.out, if_neg (by rw [hx]; simp)]
        clear HS HV
        go_wp2_with fail
        go_roundw
        case rel => exact ⟨j + 1, by omega, by simp, HS2.out, hbA.out, hxA.out⟩
        case measure => simp [intOf]; omega
    · have hje : j = ls.length := by omega
      subst hje
      have HE : Hid (firstI df ls u = df) := by show _ = _; rw [HV.out, List.drop_length]; rfl
      have HB : Hid _ := hbw
      clear HV hbw
      go_wp2_with fail
      go_ret
      exact ⟨by rw [HE.out]; rfl, HB.out⟩

set_option maxHeartbeats 4000000 in
theorem pstanding_any {lv mv : Value} {df : Int} {op : Bool} {ls : List (List UInt8 × Int)} (u : List UInt8) (w : World) (h : PairsAt mv ls w) :
    Calls Tryd.prog 33 #[.agg #[lv, .int .i64 df, mv, .bool op], S u] w fun e w' => e = .returned (.int .i64 (firstK ls u)) ∧ Below w.heap.size w w' := by
  obtain ⟨hm, a, cap, rfl, hc⟩ := h
  unfold maxLen at hm
  have hb := (Below.refl w.heap.size w).alloc (Nat.le_refl _) (.cells #[lv, .int .i64 df, .slice a ls.length cap, .bool op] 27)
  have hx : (w.alloc (.cells #[lv, .int .i64 df, .slice a ls.length cap, .bool op] 27)).heap[w.heap.size]? = some (.cells #[lv, .int .i64 df, .slice a ls.length cap, .bool op] 27 (0, 0)) := heap_alloc_new w _
  have H0 : Hid _ := And.intro hb hx
  have HC : Hid _ := hc
  clear hb hx hc
  go_enter Tryd.func33, Tryd.ntmps33
  go_wp2_with fail
  obtain ⟨hb0, hx0⟩ := H0.out
  clear H0
  generalize w.alloc (.cells #[lv, .int .i64 df, .slice a ls.length cap, .bool op] 27) = wz at *
  go_loopw [10] (fun i wr => ∃ j, j ≤ ls.length ∧ i = .int .i64 j ∧ Hid (firstK ls u = firstK (ls.drop j) u) ∧ Below w.heap.size w wr ∧ wr.heap[w.heap.size]? = some (.cells #[lv, .int .i64 df, .slice a ls.length cap, .bool op] 27 (0, 0))) (fun i _ => ls.length - (intOf i).toNat)
  case atStart => exact ⟨0, Nat.zero_le _, rfl, rfl, hb0, hx0⟩
  case round =>
    obtain ⟨j, hj, rfl, HV, hbw, hxw⟩ := hrel
    have q1 := cell_of_row wr w.heap.size 1 _ _ _ hxw
    simp only [List.getElem?_toArray, List.getElem?_cons_zero, List.getElem?_cons_succ] at q1
    clear hb0 hx0
    by_cases hlt : j < ls.length
    · obtain ⟨b, o, rfl, c0, c1, hn⟩ := HC.out j hlt
      have HS : Hid _ := firstK_step ls u j hlt
      have c0' : wr.cell? ⟨b, o + j * 2, none⟩ = some (S (ls.getD j ([], 0)).1) := by rw [hbw.cell (p := ⟨b, o + j * 2, none⟩) (World.block_lt_of_cell? w _ c0)]; exact c0
      have c1' : wr.cell? ⟨b, o + j * 2 + 1, none⟩ = some (.int .i64 (ls.getD j ([], 0)).2) := by rw [hbw.cell (p := ⟨b, o + j * 2 + 1, none⟩) (World.block_lt_of_cell? w _ c1)]; exact c1
      have lb := World.block_lt_of_cell? wr _ c0'
      simp only at lb
      have b0 : (0 : Int) ≤ (j : Int) := by omega
      have b1 : (j : Int) < (ls.length : Int) := by omega
      have ne1 : wr.heap.size ≠ b := by omega
      clear c0 c1
      generalize ls.getD j ([], 0) = x at *
      have hbA : Hid (Below w.heap.size w (wr.alloc (.cells #[S x.1, .int .i64 x.2] 79))) := hbw.alloc hbw.size _
      have hxA : Hid ((wr.alloc (.cells #[S x.1, .int .i64 x.2] 79)).heap[w.heap.size]? = some (.cells #[lv, .int .i64 df, .slice (some ⟨b, o, none⟩) ls.length cap, .bool op] 27 (0, 0))) := by show _ = _; rw [Below.heap_alloc _ _ _ (lt_of_get hxw)]; exact hxw
      clear hbw hxw
      cases hx : (x.1 == u) with
      | true =>
        have HS2 : Hid (firstK ls u = knownI x.2) := by show _ = _; rw [HV.out, HS.out, if_pos hx]
        have WK := fun W => pmember_any x.2 W
        generalize knownI x.2 = kx at *
        clear HS HV
        go_wp2_with fail
        refine (WK _).mono ?_
        rintro e w5 ⟨rfl, rfl⟩
        clear WK
        go_wp2_with fail
        go_ret
        exact ⟨by rw [HS2.out]; rfl, hbA.out⟩
      | false =>
        have HS2 : Hid (firstK ls u = firstK (ls.drop (j + 1)) u) := by show _ = _; rw [HV.out, HS.out, if_neg (by rw [hx]; simp)]
        clear HS HV
        go_wp2_with fail
        go_roundw
        case rel => exact ⟨j + 1, by omega, by simp, HS2.out, hbA.out, hxA.out⟩
        case measure => simp [intOf]; omega
    · have hje : j = ls.length := by omega
      subst hje
      have HE : Hid (firstK ls u = 0) := by show _ = _; rw [HV.out, List.drop_length]; rfl
      have HB : Hid _ := hbw
      clear HV hbw
      go_wp2_with fail
      go_ret
      exact ⟨by rw [HE.out]; rfl, HB.out⟩
end Go.Proofs.YtfkdailfcmnjlaaDoor

namespace Go.Proofs.YtfkdailfcmnjlaaDoor
open Go Go.RowKit
set_option maxRecDepth 100000
attribute [local go_sem ↓] Go.wp_at_zero Go.wp_at_succ

/-- An event; a state. -/
structure Ev where
  sender : List UInt8
  target : List UInt8
  wants : Int
  need : Int
  when_ : Int
structure Stt where
  levels : List (List UInt8 × Int)
  dflt : Int
  members : List (List UInt8 × Int)
  open_ : Bool
def evV (e : Ev) : Value := .agg #[S e.sender, S e.target, .int .i64 e.wants, .int .i64 e.need, .int .i64 e.when_]
def sttV (lv mv : Value) (s : Stt) : Value := .agg #[lv, .int .i64 s.dflt, mv, .bool s.open_]
/-- All nine fields. -/
def fieldsL (e : Ev) (s : Stt) : List Int := [firstI s.dflt s.levels e.sender, firstI s.dflt s.levels e.target, e.need, e.when_, firstK s.members e.sender, firstK s.members e.target, knownI e.wants, truthI (e.sender == e.target), truthI s.open_]

set_option maxHeartbeats 8000000 in
theorem fields_ref {lv mv : Value} (e : Ev) (s : Stt) (w : World) (h1 : PairsAt lv s.levels w) (h2 : PairsAt mv s.members w) (hw : In64 e.wants) :
    Calls Tryd.prog 28 #[evV e, sttV lv mv s] w fun en w' => (∃ gf, en = .returned (.slice (some ⟨gf, 0, none⟩) 9 9) ∧ ∀ i, i < 9 → w'.cell? ⟨gf, i, none⟩ = some (.int .i64 ((fieldsL e s).getD i 0))) ∧ Below w.heap.size w w' := by
  unfold evV sttV
  obtain ⟨sn, tg, wa, nd, wh⟩ := e
  obtain ⟨ls, df, ms, op⟩ := s
  simp only [] at *
  have hol : lv.oneCell' = true := by obtain ⟨_, a, c, rfl, _⟩ := h1; rfl
  have hom : mv.oneCell' = true := by obtain ⟨_, a, c, rfl, _⟩ := h2; rfl
  have hEo : Obj := .cells #[S sn, S tg, .int .i64 wa, .int .i64 nd, .int .i64 wh] 23
  clear hEo
  have hB0 : Below w.heap.size w ((w.alloc (.cells #[S sn, S tg, .int .i64 wa, .int .i64 nd, .int .i64 wh] 23)).alloc (.cells #[lv, .int .i64 df, mv, .bool op] 27)) := ((Below.refl _ _).alloc (Nat.le_refl _) _).alloc (by simp) _
  have hX0 : ((w.alloc (.cells #[S sn, S tg, .int .i64 wa, .int .i64 nd, .int .i64 wh] 23)).alloc (.cells #[lv, .int .i64 df, mv, .bool op] 27)).heap[w.heap.size]? = some (.cells #[S sn, S tg, .int .i64 wa, .int .i64 nd, .int .i64 wh] 23 (0, 0)) := by rw [Below.heap_alloc _ _ _ (by simp)]; exact heap_alloc_new w _
  have hP0 : ((w.alloc (.cells #[S sn, S tg, .int .i64 wa, .int .i64 nd, .int .i64 wh] 23)).alloc (.cells #[lv, .int .i64 df, mv, .bool op] 27)).heap[w.heap.size + 1]? = some (.cells #[lv, .int .i64 df, mv, .bool op] 27 (0, 0)) := by have e := heap_alloc_new (w.alloc (.cells #[S sn, S tg, .int .i64 wa, .int .i64 nd, .int .i64 wh] 23)) (.cells #[lv, .int .i64 df, mv, .bool op] 27); rw [World.size_alloc] at e; exact e
  have H0 : Hid _ := And.intro hB0 (And.intro hX0 hP0)
  have WL : ∀ (u : List UInt8) (W : World), Below w.heap.size w W → Calls Tryd.prog 45 #[.agg #[lv, .int .i64 df, mv, .bool op], S u] W fun e w' => e = .returned (.int .i64 (firstI df ls u)) ∧ Below W.heap.size W w' := fun u W hb => level_any u W (h1.below hb)
  have WI : ∀ (u : List UInt8) (W : World), Below w.heap.size w W → Calls Tryd.prog 46 #[.agg #[lv, .int .i64 df, mv, .bool op], S u] W fun e w' => e = .returned (.int .i64 (firstK ms u)) ∧ Below W.heap.size W w' := fun u W hb => is_any u W (h2.below hb)
  have WK := fun W => known_any hw W
  have WT := fun b W => truth_any b W
  have KP : Hid (∀ W W', (Below w.heap.size w W ∧ W.cell? ⟨w.heap.size, 0, none⟩ = some (S sn) ∧ W.cell? ⟨w.heap.size, 1, none⟩ = some (S tg) ∧ W.cell? ⟨w.heap.size, 2, none⟩ = some (.int .i64 wa) ∧ W.cell? ⟨w.heap.size, 3, none⟩ = some (.int .i64 nd) ∧ W.cell? ⟨w.heap.size, 4, none⟩ = some (.int .i64 wh) ∧ W.cell? ⟨w.heap.size + 1, 0, none⟩ = some (lv) ∧ W.cell? ⟨w.heap.size + 1, 1, none⟩ = some (.int .i64 df) ∧ W.cell? ⟨w.heap.size + 1, 2, none⟩ = some (mv) ∧ W.cell? ⟨w.heap.size + 1, 3, none⟩ = some (.bool op)) → Below W.heap.size W W' → (Below w.heap.size w W' ∧ W'.cell? ⟨w.heap.size, 0, none⟩ = some (S sn) ∧ W'.cell? ⟨w.heap.size, 1, none⟩ = some (S tg) ∧ W'.cell? ⟨w.heap.size, 2, none⟩ = some (.int .i64 wa) ∧ W'.cell? ⟨w.heap.size, 3, none⟩ = some (.int .i64 nd) ∧ W'.cell? ⟨w.heap.size, 4, none⟩ = some (.int .i64 wh) ∧ W'.cell? ⟨w.heap.size + 1, 0, none⟩ = some (lv) ∧ W'.cell? ⟨w.heap.size + 1, 1, none⟩ = some (.int .i64 df) ∧ W'.cell? ⟨w.heap.size + 1, 2, none⟩ = some (mv) ∧ W'.cell? ⟨w.heap.size + 1, 3, none⟩ = some (.bool op))) := fun W W' hS hb => by
    obtain ⟨hb0, a0, a1, a2, a3, a4, a5, a6, a7, a8⟩ := hS
    refine ⟨hb0.trans (hb.mono hb0.size), ?_, ?_, ?_, ?_, ?_, ?_, ?_, ?_, ?_⟩
    all_goals (rw [hb.cell (World.block_lt_of_cell? W _ (by assumption))]; assumption)
  have KD : Hid (∀ W : World, (Below w.heap.size w W ∧ W.cell? ⟨w.heap.size, 0, none⟩ = some (S sn) ∧ W.cell? ⟨w.heap.size, 1, none⟩ = some (S tg) ∧ W.cell? ⟨w.heap.size, 2, none⟩ = some (.int .i64 wa) ∧ W.cell? ⟨w.heap.size, 3, none⟩ = some (.int .i64 nd) ∧ W.cell? ⟨w.heap.size, 4, none⟩ = some (.int .i64 wh) ∧ W.cell? ⟨w.heap.size + 1, 0, none⟩ = some (lv) ∧ W.cell? ⟨w.heap.size + 1, 1, none⟩ = some (.int .i64 df) ∧ W.cell? ⟨w.heap.size + 1, 2, none⟩ = some (mv) ∧ W.cell? ⟨w.heap.size + 1, 3, none⟩ = some (.bool op)) → (Below w.heap.size w W.drew ∧ W.drew.cell? ⟨w.heap.size, 0, none⟩ = some (S sn) ∧ W.drew.cell? ⟨w.heap.size, 1, none⟩ = some (S tg) ∧ W.drew.cell? ⟨w.heap.size, 2, none⟩ = some (.int .i64 wa) ∧ W.drew.cell? ⟨w.heap.size, 3, none⟩ = some (.int .i64 nd) ∧ W.drew.cell? ⟨w.heap.size, 4, none⟩ = some (.int .i64 wh) ∧ W.drew.cell? ⟨w.heap.size + 1, 0, none⟩ = some (lv) ∧ W.drew.cell? ⟨w.heap.size + 1, 1, none⟩ = some (.int .i64 df) ∧ W.drew.cell? ⟨w.heap.size + 1, 2, none⟩ = some (mv) ∧ W.drew.cell? ⟨w.heap.size + 1, 3, none⟩ = some (.bool op))) := fun W hS => by
    obtain ⟨hb0, a0, a1, a2, a3, a4, a5, a6, a7, a8⟩ := hS
    exact ⟨hb0.drew, a0, a1, a2, a3, a4, a5, a6, a7, a8⟩
  have HF : Hid (fieldsL ⟨sn, tg, wa, nd, wh⟩ ⟨ls, df, ms, op⟩ = [firstI df ls sn, firstI df ls tg, nd, wh, firstK ms sn, firstK ms tg, knownI wa, truthI (sn == tg), truthI op]) := rfl
  clear hB0 hX0 hP0 h1 h2 hw
  go_enter Tryd.func28, Tryd.ntmps28
  go_wp2_with fail
  obtain ⟨hB0, hX0, hP0⟩ := H0.out
  clear H0
  generalize ((w.alloc (.cells #[S sn, S tg, .int .i64 wa, .int .i64 nd, .int .i64 wh] 23)).alloc (.cells #[lv, .int .i64 df, mv, .bool op] 27)) = wz at *
  have hS0 : Below w.heap.size w wz ∧ wz.cell? ⟨w.heap.size, 0, none⟩ = some (S sn) ∧ wz.cell? ⟨w.heap.size, 1, none⟩ = some (S tg) ∧ wz.cell? ⟨w.heap.size, 2, none⟩ = some (.int .i64 wa) ∧ wz.cell? ⟨w.heap.size, 3, none⟩ = some (.int .i64 nd) ∧ wz.cell? ⟨w.heap.size, 4, none⟩ = some (.int .i64 wh) ∧ wz.cell? ⟨w.heap.size + 1, 0, none⟩ = some (lv) ∧ wz.cell? ⟨w.heap.size + 1, 1, none⟩ = some (.int .i64 df) ∧ wz.cell? ⟨w.heap.size + 1, 2, none⟩ = some (mv) ∧ wz.cell? ⟨w.heap.size + 1, 3, none⟩ = some (.bool op) := by
    refine ⟨hB0, ?_, ?_, ?_, ?_, ?_, ?_, ?_, ?_, ?_⟩
    all_goals first | (rw [cell_of_row wz w.heap.size _ _ _ _ hX0]; rfl) | (rw [cell_of_row wz (w.heap.size + 1) _ _ _ _ hP0]; rfl)
  clear hB0 hX0 hP0
  go_region_held3 (fun w' => Below w.heap.size w w' ∧ w'.cell? ⟨w.heap.size, 0, none⟩ = some (S sn) ∧ w'.cell? ⟨w.heap.size, 1, none⟩ = some (S tg) ∧ w'.cell? ⟨w.heap.size, 2, none⟩ = some (.int .i64 wa) ∧ w'.cell? ⟨w.heap.size, 3, none⟩ = some (.int .i64 nd) ∧ w'.cell? ⟨w.heap.size, 4, none⟩ = some (.int .i64 wh) ∧ w'.cell? ⟨w.heap.size + 1, 0, none⟩ = some (lv) ∧ w'.cell? ⟨w.heap.size + 1, 1, none⟩ = some (.int .i64 df) ∧ w'.cell? ⟨w.heap.size + 1, 2, none⟩ = some (mv) ∧ w'.cell? ⟨w.heap.size + 1, 3, none⟩ = some (.bool op)) (first | exact KD.out _ (by assumption) | exact KP.out _ _ (by assumption) (by assumption) | exact KP.out _ _ (by assumption) ((Below.refl _ _).alloc (Nat.le_refl _) _) | assumption | go_keep)
    (first
      | (go_at_call 45; refine (WL _ _ (by exact And.left (by assumption))).mono ?_; rintro e w1 ⟨rfl, hb1⟩)
      | (go_at_call 46; refine (WI _ _ (by exact And.left (by assumption))).mono ?_; rintro e w1 ⟨rfl, hb1⟩)
      | (go_at_call 47; refine (WK _).mono ?_; rintro e w1 ⟨rfl, rfl⟩)
      | (go_at_call 48; refine (WT _ _).mono ?_; rintro e w1 ⟨rfl, rfl⟩))
  rename_i hHeld
  have hBl := hHeld.1
  have hnew := heap_alloc_new w1 (.cells #[.int .i64 (firstI df ls sn), .int .i64 (firstI df ls tg), .int .i64 nd, .int .i64 wh, .int .i64 (firstK ms sn), .int .i64 (firstK ms tg), .int .i64 (knownI wa), .int .i64 (truthI (sn == tg)), .int .i64 (truthI op)] 2)
  clear hHeld KP KD WL WI WK WT hS0
  have HN : Hid _ := And.intro hBl hnew
  clear hBl hnew
  go_wp2_with fail
  go_ret
  refine ⟨⟨w1.heap.size, rfl, fun i hi => ?_⟩, HN.out.1⟩
  rw [cell_of_row _ w1.heap.size i _ _ _ HN.out.2, HF.out]
  have e9 : i = 0 ∨ i = 1 ∨ i = 2 ∨ i = 3 ∨ i = 4 ∨ i = 5 ∨ i = 6 ∨ i = 7 ∨ i = 8 := by omega
  rcases e9 with rfl | rfl | rfl | rfl | rfl | rfl | rfl | rfl | rfl <;> rfl
end Go.Proofs.YtfkdailfcmnjlaaDoor
