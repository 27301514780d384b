/-
  The words of a text that is put together out of pieces. What is printed of a condition: its words, and that it is read back. A policy as it is written: the plain reader reads the items that were meant. What is asked of a policy hangs on what was meant alone.
-/
import Derived.Test.YtfkdailfcmnjlaaGreatDoorCompiles01
import Derived.Test.YtfkdailfcmnjlaaGreatDoorCompiles02
set_option linter.unusedVariables false
set_option linter.unusedSimpArgs false
namespace Go.Proofs.YtfkdailfcmnjlaaGreatDoor
set_option maxRecDepth 100000

/-- The word that bytes begin with. -/
def wordS (s : List UInt8) : Option (Nat × List UInt8) :=
  if s.takeWhile isD ≠ [] then (if big (s.takeWhile isD) then none else some (110, s.takeWhile isD))
  else if s.takeWhile isL ≠ [] then
    (if isKw (s.takeWhile isL) then some (107, s.takeWhile isL)
     else if (s.takeWhile isL).length ≤ 8 then some (111, s.takeWhile isL) else none)
  else match s with
    | [] => none
    | c :: r =>
      if c.toNat = 60 then (if (r.getD 0 0).toNat = 61 then some (115, [60, 61]) else some (115, [60]))
      else if c.toNat = 40 ∨ c.toNat = 41 ∨ c.toNat = 59 ∨ c.toNat = 43 ∨ c.toNat = 45 ∨ c.toNat = 61 then some (115, [c])
      else none
theorem cut_stopS (p : UInt8 → Bool) (l : List UInt8) (a : Nat) : cut l a (stop p l a) = (l.drop a).takeWhile p := by
  unfold cut stop
  rw [Nat.add_sub_cancel_left]
  generalize l.drop a = s
  induction s with
  | nil => rfl
  | cons c s ih =>
    by_cases h : p c = true
    · rw [List.takeWhile_cons_of_pos h]; simp [ih]
    · rw [List.takeWhile_cons_of_neg h]; rfl
theorem wordAt_drop (l : List UInt8) (a : Nat) : wordAt l a = (wordS (l.drop a)).map fun w => ⟨w.1, w.2, a⟩ := by
  unfold wordAt wordS
  rw [cut_stopS, cut_stopS]
  have h1 : ∀ p : UInt8 → Bool, (a < stop p l a) ↔ (l.drop a).takeWhile p ≠ [] := fun p => by
    unfold stop
    rw [← List.length_pos_iff]
    omega
  have h2 : ∀ p : UInt8 → Bool, stop p l a - a = ((l.drop a).takeWhile p).length := fun p => by unfold stop; omega
  rw [h2]
  by_cases hd : a < stop isD l a
  · rw [if_pos hd, if_pos ((h1 _).1 hd)]; split <;> rfl
  rw [if_neg hd, if_neg (fun h => hd ((h1 _).2 h))]
  by_cases hl : a < stop isL l a
  · rw [if_pos hl, if_pos ((h1 _).1 hl)]; split
    · rfl
    · split <;> rfl
  rw [if_neg hl, if_neg (fun h => hl ((h1 _).2 h))]
  have e0 : l[a]? = (l.drop a)[0]? := by rw [List.getElem?_drop]; rfl
  have e1 : l.getD (a + 1) 0 = (l.drop a).getD 1 0 := by rw [List.getD_eq_getElem?_getD, List.getD_eq_getElem?_getD, List.getElem?_drop]
  rw [e0, e1]
  cases l.drop a with
  | nil => rfl
  | cons c r =>
    simp only [List.getElem?_cons_zero, List.getD_cons_succ]
    repeat' split
    all_goals rfl
/-- The words of bytes. -/
def lx : Nat → List UInt8 → Option (List (Nat × List UInt8))
  | 0, _ => none
  | f + 1, l =>
    if l.dropWhile isB = [] then some []
    else match wordS (l.dropWhile isB) with
      | none => none
      | some w => (lx f ((l.dropWhile isB).drop w.2.length)).map fun r => w :: r
theorem drop_stop (p : UInt8 → Bool) (l : List UInt8) (a : Nat) : l.drop (stop p l a) = (l.drop a).dropWhile p := by
  unfold stop
  rw [← List.drop_drop]
  generalize l.drop a = s
  induction s with
  | nil => rfl
  | cons c s ih =>
    by_cases h : p c = true
    · rw [List.takeWhile_cons_of_pos h, List.dropWhile_cons_of_pos h]; simpa using ih
    · rw [List.takeWhile_cons_of_neg h, List.dropWhile_cons_of_neg h]; rfl
/-- What the plain cutter of words gives. -/
theorem lex_lx (l : List UInt8) (f : Nat) : ∀ (a : Nat) (ws : List (Nat × List UInt8)), lx f (l.drop a) = some ws → ∃ ts, lex f l a = (ts, none) ∧ ts.map wd = ws ++ [(101, [])] := by
  induction f with
  | zero => intro a ws h; cases h
  | succ f ih =>
    intro a ws h
    rw [lx, ← drop_stop] at h
    rw [lex]
    by_cases he : l.drop (stop isB l a) = []
    · rw [if_pos he] at h
      rw [if_pos (List.drop_eq_nil_iff.1 he)]
      simp at h; subst h
      exact ⟨_, rfl, rfl⟩
    · rw [if_neg he] at h
      rw [if_neg (fun e => he (List.drop_eq_nil_iff.2 e)), wordAt_drop]
      cases hw : wordS (l.drop (stop isB l a)) with
      | none => rw [hw] at h; cases h
      | some w =>
        rw [hw] at h
        simp only [Option.map_eq_some_iff] at h
        obtain ⟨r, hr, rfl⟩ := h
        rw [List.drop_drop] at hr
        obtain ⟨ts, h1, h2⟩ := ih _ _ hr
        simp only [Option.map_some]
        rw [h1]
        exact ⟨_, rfl, by rw [List.map_cons, h2]; rfl⟩
/-- These bytes have these words. -/
def LX (l : List UInt8) (ws : List (Nat × List UInt8)) : Prop := ∀ f, l.length < f → lx f l = some ws
/-- What follows is no letter and no digit. -/
def Off (s : List UInt8) : Prop := ∀ c r, s = c :: r → isD c = false ∧ isL c = false
theorem LX.nil : LX [] [] := fun f h => by
  obtain ⟨f, rfl⟩ : ∃ g, f = g + 1 := ⟨f - 1, by simp at h; omega⟩
  rfl
theorem lx_blank {c : UInt8} (hc : isB c = true) (f : Nat) (s : List UInt8) : lx (f + 1) (c :: s) = lx (f + 1) s := by
  rw [lx, lx, List.dropWhile_cons_of_pos hc]
theorem LX.blank {c : UInt8} (hc : isB c = true) {s : List UInt8} {ws : List (Nat × List UInt8)} (h : LX s ws) : LX (c :: s) ws := fun f hf => by
  obtain ⟨f, rfl⟩ : ∃ g, f = g + 1 := ⟨f - 1, by omega⟩
  rw [lx_blank hc]; exact h _ (by simp at hf; omega)
/-- A word ahead of what has words. -/
theorem LX.word {s w : List UInt8} {k : Nat} {ws : List (Nat × List UInt8)} (h : LX s ws) (hb : ∀ c r, w ++ s = c :: r → isB c = false) (hw : wordS (w ++ s) = some (k, w)) (h0 : w ≠ []) : LX (w ++ s) ((k, w) :: ws) := fun f hf => by
  obtain ⟨f, rfl⟩ : ∃ g, f = g + 1 := ⟨f - 1, by omega⟩
  have hd : (w ++ s).dropWhile isB = w ++ s := by
    cases e : w ++ s with
    | nil => rfl
    | cons c r => rw [List.dropWhile_cons_of_neg]; rw [hb c r e]; simp
  have hl := List.length_pos_iff.2 h0
  rw [lx, hd, if_neg (by simp [h0]), hw]
  simp only []
  rw [List.drop_left, h f (by simp at hf; omega)]
  rfl
theorem tw_all {p : UInt8 → Bool} {w s : List UInt8} (hw : ∀ c ∈ w, p c = true) (hs : ∀ c r, s = c :: r → p c = false) : (w ++ s).takeWhile p = w := by
  induction w with
  | nil =>
    cases s with
    | nil => rfl
    | cons c r => rw [List.nil_append, List.takeWhile_cons_of_neg]; rw [hs c r rfl]; simp
  | cons c w ih =>
    rw [List.cons_append, List.takeWhile_cons_of_pos (hw c (by simp)), ih (fun d hd => hw d (by simp [hd]))]
theorem tw_no {p : UInt8 → Bool} {c : UInt8} {s : List UInt8} (h : p c = false) : (c :: s).takeWhile p = [] := by
  rw [List.takeWhile_cons_of_neg]; rw [h]; simp
theorem letter_not {c : UInt8} (h : isL c = true) : isD c = false ∧ isB c = false := by
  simp [isL] at h
  constructor
  · simp [isD]; omega
  · simp [isB]; omega
theorem digit_not {c : UInt8} (h : isD c = true) : isL c = false ∧ isB c = false := by
  simp [isD] at h
  constructor
  · simp [isL]; omega
  · simp [isB]; omega
/-- A keyword. -/
theorem LX.letters {s w : List UInt8} {ws : List (Nat × List UInt8)} (h : LX s ws) (hs : Off s) (h0 : w ≠ []) (hw : ∀ c ∈ w, isL c = true) {k : Nat} (hk : (isKw w = true ∧ k = 107) ∨ (isKw w = false ∧ w.length ≤ 8 ∧ k = 111)) : LX (w ++ s) ((k, w) :: ws) := by
  obtain ⟨c, r, rfl⟩ : ∃ c r, w = c :: r := by cases w with
    | nil => exact absurd rfl h0
    | cons c r => exact ⟨c, r, rfl⟩
  have hc := hw c (by simp)
  refine h.word (fun d q e => ?_) ?_ (by simp)
  · simp at e; rw [← e.1]; exact (letter_not hc).2
  · unfold wordS
    rw [tw_all hw (fun d q e => (hs d q e).2)]
    rw [show (c :: r ++ s).takeWhile isD = [] from tw_no (letter_not hc).1]
    rw [if_neg (by simp), if_pos (by simp)]
    rcases hk with ⟨h1, rfl⟩ | ⟨h1, h2, rfl⟩
    · rw [if_pos h1]
    · rw [if_neg (by rw [h1]; simp), if_pos h2]
/-- A number. -/
theorem LX.digits {s w : List UInt8} {ws : List (Nat × List UInt8)} (h : LX s ws) (hs : Off s) (h0 : w ≠ []) (hw : ∀ c ∈ w, isD c = true) (hb : decVal w ≤ 9223372036854775807) : LX (w ++ s) ((110, w) :: ws) := by
  obtain ⟨c, r, rfl⟩ : ∃ c r, w = c :: r := by cases w with
    | nil => exact absurd rfl h0
    | cons c r => exact ⟨c, r, rfl⟩
  have hc := hw c (by simp)
  refine h.word (fun d q e => ?_) ?_ (by simp)
  · simp at e; rw [← e.1]; exact (digit_not hc).2
  · unfold wordS
    rw [tw_all hw (fun d q e => (hs d q e).1), if_pos (by simp), if_neg]
    unfold big; simp; omega
/-- A sign of one byte. -/
theorem LX.sign {c : UInt8} {s : List UInt8} {ws : List (Nat × List UInt8)} (h : LX s ws) (hc : c.toNat = 40 ∨ c.toNat = 41 ∨ c.toNat = 59 ∨ c.toNat = 43 ∨ c.toNat = 45 ∨ c.toNat = 61) : LX (c :: s) ((115, [c]) :: ws) := by
  refine h.word (w := [c]) (fun d q e => ?_) ?_ (by simp)
  · simp at e; rw [← e.1]; simp [isB]; omega
  · show wordS (c :: s) = _
    unfold wordS
    rw [tw_no (by simp [isD]; omega), tw_no (by simp [isL]; omega), if_neg (by simp), if_neg (by simp)]
    show (if c.toNat = 60 then _ else _) = _
    rw [if_neg (by omega), if_pos hc]
theorem LX.less {s : List UInt8} {ws : List (Nat × List UInt8)} (h : LX s ws) (hs : ∀ c r, s = c :: r → c.toNat ≠ 61) : LX (60 :: s) ((115, [60]) :: ws) := by
  refine h.word (w := [60]) (fun d q e => ?_) ?_ (by simp)
  · simp at e; rw [← e.1]; decide
  · show wordS (60 :: s) = _
    unfold wordS
    rw [tw_no (by decide), tw_no (by decide), if_neg (by simp), if_neg (by simp)]
    show (if (60 : UInt8).toNat = 60 then (if (s.getD 0 0).toNat = 61 then _ else _) else _) = _
    rw [if_pos (by decide), if_neg]
    cases s with
    | nil => decide
    | cons c r => exact hs c r rfl
theorem LX.atMost {s : List UInt8} {ws : List (Nat × List UInt8)} (h : LX s ws) : LX (60 :: 61 :: s) ((115, [60, 61]) :: ws) := by
  refine h.word (w := [60, 61]) (fun d q e => ?_) ?_ (by simp)
  · simp at e; rw [← e.1]; decide
  · show wordS (60 :: 61 :: s) = _
    unfold wordS
    rw [tw_no (by decide), tw_no (by decide), if_neg (by simp), if_neg (by simp)]
    rfl
theorem off_cons {c : UInt8} (h : isD c = false ∧ isL c = false) (s : List UInt8) : Off (c :: s) := fun d r e => by
  simp at e; rw [← e.1]; exact h
end Go.Proofs.YtfkdailfcmnjlaaGreatDoor

namespace Go.Proofs.YtfkdailfcmnjlaaGreatDoor
set_option maxRecDepth 100000

/-- The words that stand alone; those between two. -/
def leafWs : List (List UInt8) := kMembers ++ kFields ++ [wTrue, wFalse]
def twoWs : List (Nat × List UInt8) := [(107, [111, 114]), (107, [97, 110, 100]), (115, [61]), (115, [60]), (115, [60, 61]), (115, [43]), (115, [45])]
def ShL (s : Sy) : Prop := (s.k = 110 ∧ decVal s.text ≤ 9223372036854775807) ∨ (s.k = 111 ∧ s.text ≠ [] ∧ (∀ c ∈ s.text, isL c = true) ∧ isKw s.text = false ∧ s.text.length ≤ 8) ∨ (s.k = 107 ∧ s.text ∈ leafWs)
/-- A condition at most so deep, of the words that there are. -/
def ShS : Nat → Sy → Prop
  | 0, _ => False
  | d + 1, s => ((s.kids = [] ∧ ShL s) ∨ (s.k = 107 ∧ s.text = wNot ∧ s.kids.length = 1) ∨ (s.k = 107 ∧ s.text = wIf ∧ s.kids.length = 3) ∨ ((s.k, s.text) ∈ twoWs ∧ s.kids.length = 2)) ∧ ∀ c ∈ s.kids, ShS d c
/-- What is printed of it. -/
def plainS : Nat → Sy → List UInt8
  | 0, _ => []
  | d + 1, s => if s.k = 110 then tensL (decVal s.text) else overL s.text (s.kids.map (plainS d))
def overWs (w : Nat × List UInt8) : List (List (Nat × List UInt8)) → List (Nat × List UInt8)
  | [] => [w]
  | [a] => (115, [40]) :: (((107, wNot) :: a) ++ [(115, [41])])
  | [a, b] => (115, [40]) :: ((a ++ w :: b) ++ [(115, [41])])
  | a :: b :: c :: _ => (115, [40]) :: (((107, wIf) :: (a ++ (107, wThen) :: (b ++ (107, wElse) :: c))) ++ [(115, [41])])
/-- Its words. -/
def wordsF : Nat → Sy → List (Nat × List UInt8)
  | 0, _ => []
  | d + 1, s => if s.k = 110 then [(110, tensL (decVal s.text))] else overWs (s.k, s.text) (s.kids.map (wordsF d))

theorem ofNat_lt {n : Nat} (h : n < 256) : (UInt8.ofNat n).toNat = n := by simp; omega
theorem dec_snoc (l : List UInt8) (c : UInt8) : decVal (l ++ [c]) = decVal l * 10 + (c.toNat - 48) := by unfold decVal; rw [List.foldl_append]; rfl
theorem tens_ok (f : Nat) : ∀ n, n < 10 ^ f → 0 < f → (∀ c ∈ tensF f n, isD c = true) ∧ decVal (tensF f n) = n ∧ tensF f n ≠ [] := by
  induction f with
  | zero => intro n _ h; omega
  | succ f ih =>
    intro n hn _
    rw [tensF]
    by_cases h : n < 10
    · rw [if_pos h]
      have e : (UInt8.ofNat (48 + n)).toNat = 48 + n := ofNat_lt (by omega)
      refine ⟨fun c hc => ?_, ?_, by simp⟩
      · simp only [List.mem_cons, List.not_mem_nil, or_false] at hc; subst hc; unfold isD; rw [e]; simp; omega
      · unfold decVal; simp only [List.foldl_cons, List.foldl_nil]; rw [e]; omega
    · rw [if_neg h]
      rw [Nat.pow_succ] at hn
      have hf : 0 < f := by
        rcases Nat.eq_zero_or_pos f with rfl | h0
        · simp at hn; omega
        · exact h0
      obtain ⟨h1, h2, h3⟩ := ih (n / 10) (by omega) hf
      have e : (UInt8.ofNat (48 + n % 10)).toNat = 48 + n % 10 := ofNat_lt (by omega)
      refine ⟨fun c hc => ?_, ?_, by simp⟩
      · rw [List.mem_append] at hc
        rcases hc with hc | hc
        · exact h1 c hc
        · simp only [List.mem_cons, List.not_mem_nil, or_false] at hc; subst hc; unfold isD; rw [e]; simp; omega
      · rw [dec_snoc, h2, e]; omega
theorem tensL_ok {n : Nat} (h : n ≤ 9223372036854775807) : (∀ c ∈ tensL n, isD c = true) ∧ decVal (tensL n) = n ∧ tensL n ≠ [] := by
  have : (10 : Nat) ^ 20 = 100000000000000000000 := by decide
  exact tens_ok 20 n (by omega) (by decide)
theorem leaf_word : ∀ x ∈ leafWs, x ≠ [] ∧ (∀ c ∈ x, isL c = true) ∧ isKw x = true ∧ alone ⟨107, x, 0⟩ = true := by decide
theorem one_len {α : Type} {l : List α} (h : l.length = 1) : ∃ a, l = [a] := List.length_eq_one_iff.1 h
theorem two_len {α : Type} {l : List α} (h : l.length = 2) : ∃ a b, l = [a, b] := by
  match l, h with
  | [a, b], _ => exact ⟨a, b, rfl⟩
theorem three_len {α : Type} {l : List α} (h : l.length = 3) : ∃ a b c, l = [a, b, c] := by
  match l, h with
  | [a, b, c], _ => exact ⟨a, b, c, rfl⟩
theorem over_two {w : Nat × List UInt8} (hw : w ∈ twoWs) {s : List UInt8} {ws : List (Nat × List UInt8)} (h : LX s ws) (hs : Off s) (h61 : ∀ c r, s = c :: r → c.toNat ≠ 61) : LX (w.2 ++ s) (w :: ws) := by
  simp only [twoWs, List.mem_cons, List.not_mem_nil, or_false] at hw
  rcases hw with rfl | rfl | rfl | rfl | rfl | rfl | rfl
  · exact h.letters hs (by decide) (by decide) (.inl ⟨by decide, rfl⟩)
  · exact h.letters hs (by decide) (by decide) (.inl ⟨by decide, rfl⟩)
  · exact h.sign (by decide)
  · exact h.less h61
  · exact h.atMost
  · exact h.sign (by decide)
  · exact h.sign (by decide)
theorem off_blank (s : List UInt8) : Off (32 :: s) := off_cons (by decide) s
theorem off_shut (s : List UInt8) : Off (41 :: s) := off_cons (by decide) s
theorem LX.sp {s : List UInt8} {ws : List (Nat × List UInt8)} (h : LX s ws) : LX (32 :: s) ws := h.blank (by decide)
theorem LX.opn {s : List UInt8} {ws : List (Nat × List UInt8)} (h : LX s ws) : LX (40 :: s) ((115, [40]) :: ws) := h.sign (by decide)
theorem LX.shut {s : List UInt8} {ws : List (Nat × List UInt8)} (h : LX s ws) : LX (41 :: s) ((115, [41]) :: ws) := h.sign (by decide)
theorem LX.kw {s : List UInt8} {ws : List (Nat × List UInt8)} (h : LX s ws) (hs : Off s) (w : List UInt8) (hw : w ∈ leafWs ++ kOthers) : LX (w ++ s) ((107, w) :: ws) := by
  have : ∀ w ∈ leafWs ++ kOthers, w ≠ [] ∧ (∀ c ∈ w, isL c = true) ∧ isKw w = true := by decide
  obtain ⟨h1, h2, h3⟩ := this w hw
  exact h.letters hs h1 h2 (.inl ⟨h3, rfl⟩)
/-- The words of what is printed. -/
theorem plain_lex (d : Nat) : ∀ {s : Sy}, ShS d s → ∀ {rest : List UInt8} {ws : List (Nat × List UInt8)}, LX rest ws → Off rest → LX (plainS d s ++ rest) (wordsF d s ++ ws) := by
  induction d with
  | zero => intro s h; exact h.elim
  | succ d ih =>
    intro s h rest ws hr ho
    obtain ⟨hs, hk⟩ := h
    rw [plainS, wordsF]
    by_cases h110 : s.k = 110
    · rw [if_pos h110, if_pos h110]
      have hv : decVal s.text ≤ 9223372036854775807 := by
        rcases hs with ⟨_, ⟨_, h⟩ | ⟨e, _⟩ | ⟨e, _⟩⟩ | ⟨e, _⟩ | ⟨e, _⟩ | ⟨e, _⟩
        · exact h
        · omega
        · omega
        · omega
        · omega
        · rw [h110] at e; simp [twoWs] at e
      obtain ⟨t1, t2, t3⟩ := tensL_ok hv
      exact hr.digits ho t3 t1 (by rw [t2]; exact hv)
    · rw [if_neg h110, if_neg h110]
      rcases hs with ⟨hn, hl⟩ | ⟨e1, e2, hl⟩ | ⟨e1, e2, hl⟩ | ⟨hw, hl⟩
      · rw [hn]
        show LX (s.text ++ rest) ((s.k, s.text) :: ws)
        rcases hl with ⟨e, _⟩ | ⟨e, h1, h2, h3, h4⟩ | ⟨e, h1⟩
        · exact absurd e h110
        · rw [e]; exact hr.letters ho h1 h2 (.inr ⟨h3, h4, rfl⟩)
        · rw [e]
          obtain ⟨g1, g2, g3, _⟩ := leaf_word _ h1
          exact hr.letters ho g1 g2 (.inl ⟨g3, rfl⟩)
      · obtain ⟨a, ha⟩ := one_len hl
        rw [ha] at hk ⊢
        have ka := hk a (by simp)
        show LX (wsNot ++ plainS d a ++ [41] ++ rest) _
        rw [show wsNot ++ plainS d a ++ [41] ++ rest = 40 :: (wNot ++ (32 :: (plainS d a ++ (41 :: rest)))) from by simp [wsNot, wNot]]
        rw [show overWs (s.k, s.text) (List.map (wordsF d) [a]) ++ ws = (115, [40]) :: ((107, wNot) :: (wordsF d a ++ ((115, [41]) :: ws))) from by simp [overWs]]
        exact (((ih ka hr.shut (off_shut _)).sp).kw (off_blank _) wNot (by decide)).opn
      · obtain ⟨a, b, c, ha⟩ := three_len hl
        rw [ha] at hk ⊢
        have ka := hk a (by simp)
        have kb := hk b (by simp)
        have kc := hk c (by simp)
        show LX (wsIf ++ plainS d a ++ wsThen ++ plainS d b ++ wsElse ++ plainS d c ++ [41] ++ rest) _
        rw [show wsIf ++ plainS d a ++ wsThen ++ plainS d b ++ wsElse ++ plainS d c ++ [41] ++ rest = 40 :: (wIf ++ (32 :: (plainS d a ++ (32 :: (wThen ++ (32 :: (plainS d b ++ (32 :: (wElse ++ (32 :: (plainS d c ++ (41 :: rest)))))))))))) from by simp [wsIf, wsThen, wsElse, wIf, wThen, wElse]]
        rw [show overWs (s.k, s.text) (List.map (wordsF d) [a, b, c]) ++ ws = (115, [40]) :: ((107, wIf) :: (wordsF d a ++ ((107, wThen) :: (wordsF d b ++ ((107, wElse) :: (wordsF d c ++ ((115, [41]) :: ws))))))) from by simp [overWs]]
        exact ((ih ka ((ih kb ((ih kc hr.shut (off_shut _)).sp.kw (off_blank _) wElse (by decide)).sp (off_blank _)).sp.kw (off_blank _) wThen (by decide)).sp (off_blank _)).sp.kw (off_blank _) wIf (by decide)).opn
      · obtain ⟨a, b, ha⟩ := two_len hl
        rw [ha] at hk ⊢
        have ka := hk a (by simp)
        have kb := hk b (by simp)
        show LX ([40] ++ plainS d a ++ [32] ++ s.text ++ [32] ++ plainS d b ++ [41] ++ rest) _
        rw [show [40] ++ plainS d a ++ [32] ++ s.text ++ [32] ++ plainS d b ++ [41] ++ rest = 40 :: (plainS d a ++ (32 :: (s.text ++ (32 :: (plainS d b ++ (41 :: rest)))))) from by simp]
        rw [show overWs (s.k, s.text) (List.map (wordsF d) [a, b]) ++ ws = (115, [40]) :: (wordsF d a ++ ((s.k, s.text) :: (wordsF d b ++ ((115, [41]) :: ws)))) from by simp [overWs]]
        refine (ih ka (LX.sp ?_) (off_blank _)).opn
        exact over_two hw (ih kb hr.shut (off_shut _)).sp (off_blank _) (fun c r e => by simp at e; rw [← e.1]; decide)
/-- At which level a sign stands. -/
theorem two_level {w : Nat × List UInt8} (hw : w ∈ twoWs) : ∃ n, isChain n ∧ joins n ⟨w.1, w.2, 0⟩ = true := by
  simp only [twoWs, List.mem_cons, List.not_mem_nil, or_false] at hw
  rcases hw with rfl | rfl | rfl | rfl | rfl | rfl | rfl
  · exact ⟨0, .inl rfl, by decide⟩
  · exact ⟨1, .inr (.inl rfl), by decide⟩
  · exact ⟨3, .inr (.inr (.inl rfl)), by decide⟩
  · exact ⟨3, .inr (.inr (.inl rfl)), by decide⟩
  · exact ⟨3, .inr (.inr (.inl rfl)), by decide⟩
  · exact ⟨4, .inr (.inr (.inr rfl)), by decide⟩
  · exact ⟨4, .inr (.inr (.inr rfl)), by decide⟩
/-- Two conditions that stand alone each, a sign between them. -/
theorem RdS.both {d : Nat} {wa wb : List (Nat × List UInt8)} {sa sb : Sy} {w : Nat × List UInt8} (hw : w ∈ twoWs) (ha : RdS d 5 wa sa) (hha : Hd wa) (hb : RdS d 5 wb sb) (hhb : Hd wb) : RdS (d + 1) 6 (wa ++ w :: wb) ⟨w.1, w.2, [sa, sb]⟩ := by
  obtain ⟨n, hn, hj⟩ := two_level hw
  have h6 : n + 1 ≤ 6 := by unfold isChain at hn; omega
  exact (RdS.two hn hj (ha.out hha h6) (hb.out hhb h6)).from_ (hha.more _) hn
theorem RdS.nots {d : Nat} {ws : List (Nat × List UInt8)} {s : Sy} (h : RdS d 5 ws s) (hh : Hd ws) : RdS (d + 1) 6 ((107, wNot) :: ws) ⟨107, wNot, [s]⟩ :=
  (h.out hh (n := 2) (by omega)).not_.to1.to0.cond ⟨_, _, rfl, by decide⟩
/-- What is printed is read back. -/
theorem plain_rd (d : Nat) : ∀ {s : Sy}, ShS d s → RdS d 5 (wordsF d s) s ∧ Hd (wordsF d s) := by
  induction d with
  | zero => intro s h; exact h.elim
  | succ d ih =>
    intro s h
    obtain ⟨hs, hk⟩ := h
    obtain ⟨k, text, kids⟩ := s
    simp only [] at hs hk
    rw [wordsF]
    simp only []
    rcases hs with ⟨hn, hl⟩ | ⟨e1, e2, hl⟩ | ⟨e1, e2, hl⟩ | ⟨hw, hl⟩
    · subst hn
      rcases hl with ⟨e, hv⟩ | ⟨e, h1, h2, h3, h4⟩ | ⟨e, h1⟩
      · simp only [] at e; subst e
        rw [if_pos rfl]
        have ha : alone ⟨110, tensL (decVal text), 0⟩ = true := rfl
        exact ⟨RdS.one ha rfl ⟨rfl, by rw [if_pos rfl]; exact (tensL_ok hv).2.1⟩, hd_one ha⟩
      · simp only [] at e; subst e
        rw [if_neg (by decide)]
        have ha : alone ⟨111, text, 0⟩ = true := rfl
        exact ⟨RdS.one ha rfl ⟨rfl, by rw [if_neg (by show ¬ 111 = 110; decide)]⟩, hd_one ha⟩
      · simp only [] at e; subst e
        rw [if_neg (by decide)]
        have ha := (leaf_word _ h1).2.2.2
        exact ⟨RdS.one (w := (107, text)) ha rfl ⟨rfl, by rw [if_neg (by show ¬ 107 = 110; decide)]⟩, hd_one (w := (107, text)) ha⟩
    · subst e1 e2
      obtain ⟨a, rfl⟩ := one_len hl
      obtain ⟨ra, ha⟩ := ih (hk a (by simp))
      rw [if_neg (by decide)]
      exact ⟨(ra.nots ha).brackets, hd_brackets _⟩
    · subst e1 e2
      obtain ⟨a, b, c, rfl⟩ := three_len hl
      obtain ⟨ra, ha⟩ := ih (hk a (by simp))
      obtain ⟨rb, hb⟩ := ih (hk b (by simp))
      obtain ⟨rc, hc⟩ := ih (hk c (by simp))
      rw [if_neg (by decide)]
      exact ⟨(RdS.if_ (ra.out ha (Nat.le_refl 6)) (rb.out hb (Nat.le_refl 6)) (rc.out hc (Nat.le_refl 6))).brackets, hd_brackets _⟩
    · obtain ⟨a, b, rfl⟩ := two_len hl
      obtain ⟨ra, ha⟩ := ih (hk a (by simp))
      obtain ⟨rb, hb⟩ := ih (hk b (by simp))
      rw [if_neg (by rintro rfl; simp [twoWs] at hw)]
      exact ⟨(RdS.both hw ra ha rb hb).brackets, hd_brackets _⟩
end Go.Proofs.YtfkdailfcmnjlaaGreatDoor

namespace Go.Proofs.YtfkdailfcmnjlaaGreatDoor
set_option maxRecDepth 100000

/-- An item as it is meant: a let's name (nothing: a rule), does it allow, its condition. -/
structure SyI where
  name : List UInt8
  allow : Bool
  sy : Sy
def hW (s : SyI) : List (Nat × List UInt8) := if s.name = [] then [(107, if s.allow then wAllow else wDeny), (107, wIf)] else [(107, wLet), (111, s.name), (115, [61])]
def itemW (p : SyI × List (Nat × List UInt8)) : List (Nat × List UInt8) := hW p.1 ++ (p.2 ++ [(115, [59])])
/-- What reading an item leaves. -/
structure GotI (d i n : Nat) (L : List Pt) (s : SyI) (r : ItR) : Prop where
  ok : r.ok = true
  at_ : r.i = i + n
  new : ∃ new, r.L = L ++ new
  len : r.L.length = L.length + cS d s.sy
  name : r.it.name = s.name
  allow : r.it.allow = s.allow
  top : r.it.top + 1 = r.it.parts
  parts : r.it.parts = r.L.length
  is : IsSy d r.L r.it.top s.sy
theorem tail_got {d F i : Nat} {ts : List Tok} {L : List Pt} {s : SyI} {c : List (Nat × List UInt8)} {x : Itm} {r : ItR} (hc : RdS d 6 c s.sy) (hm : Mt ts i (c ++ [(115, [59])])) (hn : x.name = s.name) (ha : x.allow = s.allow) (h : itemTail F ts i L x = some r) : GotI d i (c.length + 1) L s r := by
  unfold itemTail at h
  cases hP : P F 6 ts i L 0 with
  | none => rw [hP] at h; cases h
  | some a =>
    rw [hP] at h
    simp only [] at h
    obtain ⟨h1, _⟩ := hm.right
    have g := hc ts i L 0 F a hm.left (noJ_sign (.inr (.inl h1))) hP
    rw [if_pos g.ok, if_pos (by rw [g.at_, isW_wd h1]; rfl)] at h
    simp at h
    subst h
    exact ⟨rfl, by show a.i + 1 = _; rw [g.at_]; omega, g.new, g.len, hn, ha, g.top, rfl, g.is⟩
theorem item_got {d F i : Nat} {ts : List Tok} {L : List Pt} {s : SyI} {c : List (Nat × List UInt8)} {r : ItR} (hc : RdS d 6 c s.sy) (ha : s.name ≠ [] → s.allow = false) (hm : Mt ts i (itemW (s, c))) (h : itemP F ts i L = some r) : GotI d i (itemW (s, c)).length L s r := by
  unfold itemW hW at *
  simp only [] at *
  unfold itemP at h
  by_cases hn : s.name = []
  · rw [if_pos hn] at hm ⊢
    obtain ⟨h1, h2, h3⟩ := hm
    have hl : isW (tokAt ts i) wLet = false := by rw [isW_wd h1]; cases s.allow <;> rfl
    have hal : (isW (tokAt ts i) wAllow || isW (tokAt ts i) wDeny) = true := by rw [isW_wd h1, isW_wd h1]; cases s.allow <;> rfl
    rw [hl, if_neg (by simp), if_pos hal, if_pos (by rw [isW_wd h2]; rfl)] at h
    have g := tail_got (s := s) hc h3 (by exact hn.symm) (by
      show ((tokAt ts i).text == wAllow) = s.allow
      have : (tokAt ts i).text = (if s.allow = true then wAllow else wDeny) := congrArg Prod.snd h1
      rw [this]; cases s.allow <;> rfl) h
    refine ⟨g.ok, ?_, g.new, g.len, g.name, g.allow, g.top, g.parts, g.is⟩
    rw [g.at_]; simp; omega
  · rw [if_neg hn] at hm ⊢
    obtain ⟨h1, h2, h3, h4⟩ := hm
    rw [if_pos (by rw [isW_wd h1]; rfl)] at h
    have hk : (tokAt ts (i + 1)).k = 111 := congrArg Prod.fst h2
    have ht : (tokAt ts (i + 1)).text = s.name := congrArg Prod.snd h2
    rw [if_pos hk, if_pos (by rw [isW_wd h3]; rfl)] at h
    have g := tail_got (s := s) hc h4 (by exact ht) (ha hn).symm h
    refine ⟨g.ok, ?_, g.new, g.len, g.name, g.allow, g.top, g.parts, g.is⟩
    rw [g.at_]; simp; omega
/-- The items that were read are those that were meant. -/
def PolIs (d : Nat) (L : List Pt) : List Itm → List SyI → Nat → Prop
  | [], [], fr => L.length = fr
  | x :: r, s :: q, fr => x.name = s.name ∧ x.allow = s.allow ∧ IsSy d L x.top s.sy ∧ x.top + 1 = x.parts ∧ x.parts = fr + cS d s.sy ∧ PolIs d L r q x.parts
  | _, _, _ => False
def polW (pol : List (SyI × List (Nat × List UInt8))) : List (Nat × List UInt8) := pol.flatMap itemW
theorem parse_got {d F : Nat} {ts : List Tok} (pol : List (SyI × List (Nat × List UInt8))) : ∀ (g i : Nat) (L : List Pt) (xs : List Itm) (R : AllR), (∀ p ∈ pol, RdS d 6 p.2 p.1.sy ∧ (p.1.name ≠ [] → p.1.allow = false)) → Mt ts i (polW pol) → (tokAt ts (i + (polW pol).length)).k = 101 → parseAll F ts g i L xs = some R →
    R.ok = true ∧ ∃ new xs', R.L = L ++ new ∧ R.xs = xs ++ xs' ∧ PolIs d R.L xs' (pol.map Prod.fst) L.length := by
  induction pol with
  | nil =>
    intro g i L xs R _ _ hk h
    have := parse_end h hk
    subst this
    exact ⟨rfl, [], [], by simp, by simp, rfl⟩
  | cons p pol ih =>
    intro g i L xs R hp hm hk h
    obtain ⟨s, c⟩ := p
    have e : polW ((s, c) :: pol) = itemW (s, c) ++ polW pol := by simp [polW]
    rw [e] at hm hk
    have h101 : ¬ (tokAt ts i).k = 101 := by
      have hm1 := hm.left
      unfold itemW hW at hm1
      by_cases hn : s.name = []
      · simp only [if_pos hn] at hm1
        have : (tokAt ts i).k = 107 := congrArg Prod.fst hm1.1
        omega
      · simp only [if_neg hn] at hm1
        have : (tokAt ts i).k = 107 := congrArg Prod.fst hm1.1
        omega
    obtain ⟨r, g', hr, hR⟩ := parse_step h h101
    obtain ⟨hp1, hp2⟩ := hp (s, c) (by simp)
    have q := item_got hp1 hp2 hm.left hr
    rcases hR with ⟨_, hR⟩ | ⟨e', _⟩
    · rw [q.at_] at hR
      have hk' : (tokAt ts (i + (itemW (s, c)).length + (polW pol).length)).k = 101 := by
        rw [List.length_append] at hk
        rw [Nat.add_assoc]; exact hk
      obtain ⟨ok, new, xs', h1, h2, h3⟩ := ih g' _ r.L (xs ++ [r.it]) R (fun p hp' => hp p (by simp [hp'])) hm.right hk' hR
      obtain ⟨n1, hn1⟩ := q.new
      refine ⟨ok, n1 ++ new, r.it :: xs', by rw [h1, hn1]; simp, by rw [h2]; simp, ?_⟩
      refine ⟨q.name, q.allow, by rw [h1]; exact q.is.more _, q.top, by rw [q.parts, q.len], ?_⟩
      rw [q.parts]; exact h3
    · rw [q.ok] at e'; cases e'
/-- The words of a text, where it is cut. -/
theorem mt_map {ts : List Tok} {ws : List (Nat × List UInt8)} (h : ts.map wd = ws ++ [(101, [])]) : Mt ts 0 ws ∧ (tokAt ts (0 + ws.length)).k = 101 := by
  have key : ∀ (ws : List (Nat × List UInt8)) (pre ts : List Tok), ts.map wd = ws ++ [(101, [])] → Mt (pre ++ ts) pre.length ws ∧ (tokAt (pre ++ ts) (pre.length + ws.length)).k = 101 := by
    intro ws
    induction ws with
    | nil =>
      intro pre ts h
      obtain ⟨t, rfl⟩ : ∃ t, ts = [t] := by
        have : ts.length = 1 := by have := congrArg List.length h; simpa using this
        exact List.length_eq_one_iff.1 this
      simp at h
      refine ⟨trivial, ?_⟩
      unfold tokAt
      simp [List.getD_eq_getElem?_getD]
      exact congrArg Prod.fst h
    | cons w ws ih =>
      intro pre ts h
      cases ts with
      | nil => simp at h
      | cons t ts =>
        simp at h
        have := ih (pre ++ [t]) ts h.2
        simp at this
        refine ⟨⟨?_, this.1⟩, ?_⟩
        · unfold tokAt; simp [List.getD_eq_getElem?_getD]; exact h.1
        · rw [show pre.length + (w :: ws).length = pre.length + 1 + ws.length from by simp; omega]; exact this.2
  exact key ws [] ts h
end Go.Proofs.YtfkdailfcmnjlaaGreatDoor

namespace Go.Proofs.YtfkdailfcmnjlaaGreatDoor
set_option maxRecDepth 100000

/-- A value of a part by its word and the values under it. -/
def foL {β : Type} (N : Tok → List β → β) (z : β) : Nat → List Pt → Nat → β
  | 0, _, _ => z
  | f + 1, L, i => N (L.getD i noPt).tok ((L.getD i noPt).subs.map (foL N z f L))
def tokS (s : Sy) : Tok := ⟨s.k, s.text, 0⟩
def foS {β : Type} (N : Tok → List β → β) (z : β) : Nat → Sy → β
  | 0, _ => z
  | d + 1, s => N (tokS s) (s.kids.map (foS N z d))
/-- It hangs on a word's kind and text alone (of a number, its value). -/
def Fair {β : Type} (N : Tok → List β → β) : Prop := ∀ (t : Tok) (s : Sy) (l : List β), SameW t s → (t.k = 110 → l = []) → N t l = N (tokS s) l
theorem map_is {β : Type} (F : Nat → β) (G : Sy → β) {js : List Nat} {ks : List Sy} (hl : js.length = ks.length) (h : ∀ j, j < ks.length → F (js.getD j 0) = G (ks.getD j noSy)) : js.map F = ks.map G := by
  apply List.ext_getElem
  · simp [hl]
  · intro j h1 h2
    have hj : j < ks.length := by simpa using h2
    have := h j hj
    simp only [List.getElem_map]
    rw [List.getD_eq_getElem?_getD, List.getD_eq_getElem?_getD, List.getElem?_eq_getElem (by omega), List.getElem?_eq_getElem hj] at this
    exact this
theorem shape_number {p : Pt} (h : Shape p) (h1 : p.tok.k = 110) : p.subs = [] := by
  rcases h with ⟨_, h⟩ | ⟨h, _⟩ | ⟨h, _⟩ | ⟨n, _, h, _⟩
  · exact h
  · unfold isW at h; rw [h1] at h; simp at h
  · unfold isW at h; rw [h1] at h; simp at h
  · unfold joins at h; rw [h1] at h; simp at h
theorem fo_same {β : Type} {N : Tok → List β → β} {z : β} (hN : Fair N) (f : Nat) : ∀ {d : Nat} {L : List Pt} {lo i : Nat} {s : Sy}, TreeF f L lo i → IsSy d L i s → foL N z f L i = foS N z d s := by
  induction f with
  | zero => intro d L lo i s h; exact h.elim
  | succ f ih =>
    intro d L lo i s hT hI
    cases d with
    | zero => exact hI.elim
    | succ d =>
      obtain ⟨h1, h2, h3, h4⟩ := hI
      rw [foL, foS, hN _ s _ h2 (fun e => by rw [shape_number hT.2.1 e]; rfl)]
      rw [map_is (foL N z f L) (foS N z d) h3 fun j hj => ?_]
      obtain ⟨lo', hT'⟩ := forest_mem _ hT.2.2 ((L.getD i noPt).subs.getD j 0) (by
        generalize (L.getD i noPt).subs = q at *
        rw [List.getD_eq_getElem?_getD, List.getElem?_eq_getElem (by omega)]
        exact List.getElem_mem _)
      exact ih hT' (h4 j hj)
/-- Printing. -/
def nPlain (t : Tok) (l : List (List UInt8)) : List UInt8 := if t.k = 110 then tensL (decVal t.text) else overL t.text l
theorem fair_plain : Fair nPlain := fun t s l h _ => by
  obtain ⟨h1, h2⟩ := h
  unfold nPlain tokS
  rw [h1]
  by_cases h : s.k = 110
  · rw [if_pos h] at h2 ⊢; rw [if_pos h, h2]
  · rw [if_neg h] at h2 ⊢; rw [if_neg h, h2]
theorem plain_fo (f : Nat) (L : List Pt) : ∀ i, plainF f L i = foL nPlain [] f L i := by
  induction f with
  | zero => intro i; rfl
  | succ f ih => intro i; rw [plainF, foL, nPlain, List.map_congr_left fun j _ => ih j]
theorem plainS_fo (d : Nat) : ∀ s, plainS d s = foS nPlain [] d s := by
  induction d with
  | zero => intro s; rfl
  | succ d ih => intro s; rw [plainS, foS, nPlain, List.map_congr_left fun j _ => ih j]; rfl
/-- Depth. -/
def nDep (_ : Tok) (l : List Nat) : Nat := l.foldl max 0 + 1
theorem dep_fo (f : Nat) (L : List Pt) : ∀ i, dep f L i = foL nDep 1 f L i := by
  induction f with
  | zero => intro i; rfl
  | succ f ih =>
    intro i
    rw [dep, foL, nDep, foldMax, List.foldl_map]
    have : ∀ (js : List Nat) (m : Nat), List.foldl (fun m j => max m (dep f L j)) m js = List.foldl (fun x y => max x (foL nDep 1 f L y)) m js := by
      intro js
      induction js with
      | nil => intro m; rfl
      | cons j js ihj => intro m; rw [List.foldl_cons, List.foldl_cons, ih j]; exact ihj _
    rw [this]
def dS (d : Nat) (s : Sy) : Nat := foS nDep 1 d s
/-- Own names. -/
def nOwn (good : List UInt8 → Bool) (t : Tok) (l : List Bool) : Bool := if t.k = 111 then good t.text else l.all id
theorem fair_own (good : List UInt8 → Bool) : Fair (nOwn good) := fun t s l h _ => by
  obtain ⟨h1, h2⟩ := h
  unfold nOwn tokS
  rw [h1]
  by_cases h : s.k = 111
  · rw [if_neg (by omega)] at h2; rw [if_pos h, if_pos h, h2]
  · rw [if_neg h, if_neg h]
theorem firstOf_none {F : Nat → Option Nat} {G : Nat → Bool} (h : ∀ j, F j = none ↔ G j = true) (js : List Nat) : firstOf F js = none ↔ (js.map G).all id = true := by
  induction js with
  | nil => simp [firstOf]
  | cons j js ih =>
    rw [firstOf]
    cases hF : F j with
    | some p =>
      have : ¬ G j = true := fun e => by rw [(h j).2 e] at hF; cases hF
      simp [this]
    | none =>
      have := (h j).1 hF
      simp only [List.map_cons, List.all_cons, this, id, Bool.true_and]
      exact ih
theorem res_fo {bad : Tok → Bool} {good : List UInt8 → Bool} (hb : ∀ t, t.k = 111 → bad t = !good t.text) (f : Nat) (L : List Pt) : ∀ i, resF bad f L i = none ↔ foL (nOwn good) true f L i = true := by
  induction f with
  | zero => intro i; simp [resF, foL]
  | succ f ih =>
    intro i
    rw [resF, foL, nOwn]
    by_cases h : (L.getD i noPt).tok.k = 111
    · rw [if_pos h, if_pos h, hb _ h]
      cases good (L.getD i noPt).tok.text <;> simp
    · rw [if_neg h, if_neg h]
      exact firstOf_none (fun j => ih j) _
def ownS (good : List UInt8 → Bool) (d : Nat) (s : Sy) : Bool := foS (nOwn good) true d s
/-- Types. -/
def nTy (xs : List Itm) (its : List UInt8) (t : Tok) (l : List UInt8) : UInt8 := if l.contains 0 then 0 else UInt8.ofNat (tyCase xs its t l)
theorem fair_ty (xs : List Itm) (its : List UInt8) : Fair (nTy xs its) := fun t s l h _ => by
  obtain ⟨h1, h2⟩ := h
  unfold nTy tokS tyCase
  rw [h1]
  by_cases h : s.k = 110
  · simp only [if_pos h]
  · rw [if_neg h] at h2; rw [h2]
theorem ty_fo (xs : List Itm) (its : List UInt8) (f : Nat) (L : List Pt) : ∀ i, tyOf xs its L f i = foL (nTy xs its) 0 f L i := by
  induction f with
  | zero => intro i; rfl
  | succ f ih => intro i; rw [tyOf, foL, nTy, List.map_congr_left fun j _ => ih j]
def tyS (xs : List Itm) (its : List UInt8) (d : Nat) (s : Sy) : UInt8 := foS (nTy xs its) 0 d s
/-- Names alone count. -/
theorem letIx_names {xs ys : List Itm} (h : xs.map Itm.name = ys.map Itm.name) (s : List UInt8) : ∀ k, letIx xs s k = letIx ys s k := by
  induction xs generalizing ys with
  | nil =>
    intro k
    cases ys with
    | nil => rfl
    | cons => simp at h
  | cons x xs ih =>
    intro k
    cases ys with
    | nil => simp at h
    | cons y ys =>
      simp at h
      cases k with
      | zero => rfl
      | succ k => rw [letIx, letIx, h.1, ih h.2 k]
theorem nTy_names {xs ys : List Itm} (h : xs.map Itm.name = ys.map Itm.name) (its : List UInt8) : nTy xs its = nTy ys its := by
  funext t l
  unfold nTy tyCase
  rw [letIx_names h]
/-- The items as the plain functions want them. -/
def itmOf (s : SyI) : Itm := ⟨s.name, s.allow, 0, 0, 0, 0⟩
theorem PolIs.names {d : Nat} {L : List Pt} {xs : List Itm} : ∀ {pol : List SyI} {fr : Nat}, PolIs d L xs pol fr → xs.map Itm.name = (pol.map itmOf).map Itm.name := by
  induction xs with
  | nil => intro pol fr h; cases pol with
    | nil => rfl
    | cons => exact h.elim
  | cons x xs ih => intro pol fr h; cases pol with
    | nil => exact h.elim
    | cons s pol => simp only [List.map_cons, h.1, ih h.2.2.2.2.2]; rfl
/-- Is there not too much? -/
def manyS (d : Nat) : List SyI → Nat → Nat → Nat → Bool
  | [], _, _, _ => true
  | s :: r, lets, i, fr =>
    !decide (10 < lets + (if s.name == [] then 0 else 1) ∨ 20 < i + 1 - (lets + (if s.name == [] then 0 else 1)) ∨ 200 < fr + cS d s.sy ∨ 20 < dS d s.sy) && manyS d r (lets + (if s.name == [] then 0 else 1)) (i + 1) (fr + cS d s.sy)
def goodIn (xs : List Itm) (i : Nat) (s : List UInt8) : Bool := decide (0 ≤ letIx xs s i)
def namesS (xs : List Itm) (d : Nat) : List SyI → Nat → Bool
  | [], _ => true
  | s :: r, i => !decide (s.name ≠ [] ∧ 0 ≤ letIx xs s.name i) && (ownS (goodIn xs i) d s.sy && namesS xs d r (i + 1))
def typesS (xs : List Itm) (d : Nat) : List SyI → List UInt8 → Bool
  | [], _ => true
  | s :: r, its => !decide ((tyS xs its d s.sy).toNat = 0 ∨ (s.name = [] ∧ (tyS xs its d s.sy).toNat ≠ 116)) && typesS xs d r (its ++ [tyS xs its d s.sy])
theorem many_same {d : Nat} {L : List Pt} {xs : List Itm} : ∀ {pol : List SyI} {fr fr' : Nat} (lets i : Nat), TreesAt L xs fr' → PolIs d L xs pol fr → (manyAt L xs lets i = none ↔ manyS d pol lets i fr = true) := by
  induction xs with
  | nil => intro pol fr fr' lets i _ h; cases pol with
    | nil => simp [manyAt, manyS]
    | cons => exact h.elim
  | cons x xs ih => intro pol fr fr' lets i hT h; cases pol with
    | nil => exact h.elim
    | cons s pol =>
      obtain ⟨h1, h2, h3, h4, h5, h6⟩ := h
      have hd : dep (x.top + 1) L x.top = dS d s.sy := by rw [dep_fo]; exact fo_same (fun _ _ _ _ _ => rfl) _ hT.1.fit h3
      have ih' := ih (pol := pol) (fr := x.parts) (lets + (if s.name == [] then 0 else 1)) (i + 1) hT.2.2 h6
      rw [manyAt, manyS, hd, h1, h5]
      rw [h5] at ih'
      by_cases hc : 10 < lets + (if s.name == [] then 0 else 1) ∨ 20 < i + 1 - (lets + (if s.name == [] then 0 else 1)) ∨ 200 < fr + cS d s.sy ∨ 20 < dS d s.sy
      · rw [if_pos hc, decide_eq_true hc]; simp
      · rw [if_neg hc, decide_eq_false hc]; simpa using ih'
theorem names_same {d : Nat} {L : List Pt} {ys : List Itm} (hL : PartsOK L) {xs : List Itm} : ∀ {pol : List SyI} {fr fr' : Nat} (i : Nat), TreesAt L xs fr' → PolIs d L xs pol fr → (namesAt ys L xs fr' i = none ↔ namesS ys d pol i = true) := by
  induction xs with
  | nil => intro pol fr fr' i _ h; cases pol with
    | nil => simp [namesAt, namesS]
    | cons => exact h.elim
  | cons x xs ih => intro pol fr fr' i hT h; cases pol with
    | nil => exact h.elim
    | cons s pol =>
      obtain ⟨h1, h2, h3, h4, h5, h6⟩ := h
      have hr : resF (badOf ys i) (x.top + 1) L x.top = none ↔ ownS (goodIn ys i) d s.sy = true := by
        rw [res_fo (good := goodIn ys i) (fun t _ => by unfold badOf goodIn; by_cases h : 0 ≤ letIx ys t.text i <;> simp [h] <;> omega), fo_same (fair_own _) _ hT.1.fit h3]; rfl
      have ih' := ih (pol := pol) (fr := x.parts) (i + 1) hT.2.2 h6
      have e := (TreeF.res (xs := ys) (n := i) hL.up hT.1.fit).1
      rw [← h4] at ih'
      rw [namesAt, ← h4, e, namesS, h1]
      by_cases hc : s.name ≠ [] ∧ 0 ≤ letIx ys s.name i
      · rw [if_pos hc, decide_eq_true hc]; simp
      · rw [if_neg hc, decide_eq_false hc]
        simp only [Bool.not_false, Bool.true_and, Bool.and_eq_true, Option.or_eq_none_iff]
        rw [hr, ih']
theorem types_same {d : Nat} {L : List Pt} {ys zs : List Itm} (hz : ys.map Itm.name = zs.map Itm.name) {xs : List Itm} : ∀ {pol : List SyI} {fr fr' : Nat} (its : List UInt8), TreesAt L xs fr' → PolIs d L xs pol fr → (typesAt ys L xs its = none ↔ typesS zs d pol its = true) := by
  induction xs with
  | nil => intro pol fr fr' its _ h; cases pol with
    | nil => simp [typesAt, typesS]
    | cons => exact h.elim
  | cons x xs ih => intro pol fr fr' its hT h; cases pol with
    | nil => exact h.elim
    | cons s pol =>
      obtain ⟨h1, h2, h3, h4, h5, h6⟩ := h
      have ht : tyOf ys its L (x.top + 1) x.top = tyS zs its d s.sy := by
        rw [ty_fo, fo_same (fair_ty _ _) _ hT.1.fit h3, nTy_names hz]; rfl
      rw [typesAt, typesS, ht, h1]
      by_cases hc : (tyS zs its d s.sy).toNat = 0 ∨ (s.name = [] ∧ (tyS zs its d s.sy).toNat ≠ 116)
      · rw [if_pos hc, decide_eq_true hc]; simp
      · rw [if_neg hc, decide_eq_false hc]
        simp only [Bool.not_false, Bool.true_and]
        exact ih _ hT.2.2 h6
theorem namesS_names {xs ys : List Itm} (h : xs.map Itm.name = ys.map Itm.name) (d : Nat) (pol : List SyI) : ∀ i, namesS xs d pol i = namesS ys d pol i := by
  induction pol with
  | nil => intro i; rfl
  | cons s pol ih =>
    intro i
    have e : goodIn xs i = goodIn ys i := by funext t; unfold goodIn; rw [letIx_names h]
    rw [namesS, namesS, letIx_names h, e, ih]
/-- A policy of these items is one. -/
def OkS (d : Nat) (pol : List SyI) : Prop := manyS d pol 0 0 0 = true ∧ namesS (pol.map itmOf) d pol 0 = true ∧ typesS (pol.map itmOf) d pol [] = true
theorem verdict_same {d : Nat} {ts : List Tok} {R : AllR} (ok : R.ok = true) {pol : List SyI} (hL : PartsOK R.L) (hT : TreesAt R.L R.xs 0) (hP : PolIs d R.L R.xs pol 0) : (verdictOf ts R = (0, 0) ↔ OkS d pol) ∧ ((verdictOf ts R).1 = 0 → OkS d pol) := by
  have h1 := many_same 0 0 hT hP
  have h2 := names_same (ys := R.xs) hL 0 hT hP
  rw [namesS_names hP.names] at h2
  have h3 := types_same hP.names [] hT hP
  unfold verdictOf OkS
  rw [if_neg (by rw [ok]; simp)]
  cases e1 : manyAt R.L R.xs 0 0 with
  | some p =>
    have : ¬ manyS d pol 0 0 0 = true := fun h => by rw [h1.2 h] at e1; cases e1
    simp [this]
  | none =>
    have k1 := h1.1 e1
    simp only []
    cases e2 : namesAt R.xs R.L R.xs 0 0 with
    | some p =>
      have : ¬ namesS (pol.map itmOf) d pol 0 = true := fun h => by rw [h2.2 h] at e2; cases e2
      simp [this]
    | none =>
      have k2 := h2.1 e2
      simp only []
      cases e3 : typesAt R.xs R.L R.xs [] with
      | some p =>
        have : ¬ typesS (pol.map itmOf) d pol [] = true := fun h => by rw [h3.2 h] at e3; cases e3
        simp [this]
      | none =>
        have k3 := h3.1 e3
        simp [k1, k2, k3]
/-- What is printed. -/
def headS (s : SyI) : List UInt8 := if s.name = [] then (if s.allow then wsAllow else wsDeny) else wsLet ++ s.name ++ wsEq
def printS (d : Nat) (pol : List SyI) : List UInt8 := pol.flatMap fun s => headS s ++ plainS d s.sy ++ [59, 10]
theorem print_same {d : Nat} {L : List Pt} {xs : List Itm} : ∀ {pol : List SyI} {fr fr' : Nat}, TreesAt L xs fr' → PolIs d L xs pol fr → printL L xs = printS d pol := by
  induction xs with
  | nil => intro pol fr fr' _ h; cases pol with
    | nil => rfl
    | cons => exact h.elim
  | cons x xs ih => intro pol fr fr' hT h; cases pol with
    | nil => exact h.elim
    | cons s pol =>
      obtain ⟨h1, h2, h3, h4, h5, h6⟩ := h
      have e : itemL L x = headS s ++ plainS d s.sy ++ [59, 10] := by
        unfold itemL headL headS
        rw [h1, h2, plain_fo, plainS_fo, fo_same fair_plain _ hT.1.fit h3]
      have := ih hT.2.2 h6
      unfold printL printS at *
      rw [List.flatMap_cons, List.flatMap_cons, e, this]
/-- The words of what is printed. -/
theorem LX.nl {s : List UInt8} {ws : List (Nat × List UInt8)} (h : LX s ws) : LX (10 :: s) ws := h.blank (by decide)
theorem LX.semi {s : List UInt8} {ws : List (Nat × List UInt8)} (h : LX s ws) : LX (59 :: s) ((115, [59]) :: ws) := h.sign (by decide)
def NameOK (s : SyI) : Prop := s.name = [] ∨ ((∀ c ∈ s.name, isL c = true) ∧ isKw s.name = false ∧ s.name.length ≤ 8 ∧ s.allow = false)
theorem print_lex {d : Nat} (pol : List SyI) : (∀ s ∈ pol, ShS d s.sy ∧ NameOK s) → LX (printS d pol) (polW (pol.map fun s => (s, wordsF d s.sy))) := by
  induction pol with
  | nil => intro _; exact LX.nil
  | cons s pol ih =>
    intro h
    obtain ⟨hs, hn⟩ := h s (by simp)
    have hr := ih fun s hs => h s (by simp [hs])
    have e : printS d (s :: pol) = headS s ++ (plainS d s.sy ++ (59 :: 10 :: printS d pol)) := by unfold printS; simp
    have e2 : polW ((s :: pol).map fun s => (s, wordsF d s.sy)) = hW s ++ (wordsF d s.sy ++ ((115, [59]) :: polW (pol.map fun s => (s, wordsF d s.sy)))) := by simp [polW, itemW]
    rw [e, e2]
    have hc := plain_lex d hs hr.nl.semi (off_cons (by decide) _)
    unfold headS hW
    by_cases hk : s.name = []
    · rw [if_pos hk, if_pos hk]
      have h2 := (hc.sp.kw (off_blank _) wIf (by decide)).sp
      cases s.allow with
      | true => exact h2.kw (off_blank _) wAllow (by decide)
      | false => exact h2.kw (off_blank _) wDeny (by decide)
    · rw [if_neg hk, if_neg hk]
      rcases hn with hn | ⟨n1, n2, n3, _⟩
      · exact absurd hn hk
      have h2 : LX (61 :: 32 :: (plainS d s.sy ++ (59 :: 10 :: printS d pol))) _ := hc.sp.sign (by decide)
      have h3 := (h2.sp.letters (off_blank _) hk n1 (.inr ⟨n2, n3, rfl⟩)).sp.kw (off_blank _) wLet (by decide)
      rw [show wsLet ++ s.name ++ wsEq ++ (plainS d s.sy ++ (59 :: 10 :: printS d pol)) = wLet ++ (32 :: (s.name ++ (32 :: 61 :: 32 :: (plainS d s.sy ++ (59 :: 10 :: printS d pol))))) from by simp [wsLet, wsEq, wLet]]
      exact h3
end Go.Proofs.YtfkdailfcmnjlaaGreatDoor
