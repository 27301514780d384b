/-
  Of digits: a number's text is above the greatest of 64 bits with sign just if its value is.
-/
import Derived.Test.YtfkdailfcmnjlaaGreatDoorCompiles01
import GoSem.Op.String
set_option linter.unusedVariables false
set_option linter.unusedSimpArgs false
namespace Go.Proofs.YtfkdailfcmnjlaaGreatDoor
open Go

def kMost : List UInt8 := [57, 50, 50, 51, 51, 55, 50, 48, 51, 54, 56, 53, 52, 55, 55, 53, 56, 48, 55]
def gtB (a b : List UInt8) : Bool := !Op.bytesLess a b && !a == b
def greatB (s : List UInt8) : Bool := decide (19 < (s.drop (stop isZ s 0)).length) || (decide ((s.drop (stop isZ s 0)).length = 19) && gtB (s.drop (stop isZ s 0)) kMost)


def dv (n : Nat) (l : List UInt8) : Nat := l.foldl (fun n c => n * 10 + (c.toNat - 48)) n
theorem dv_cons (n : Nat) (c : UInt8) (l : List UInt8) : dv n (c :: l) = dv (n * 10 + (c.toNat - 48)) l := by unfold dv; rw [List.foldl_cons]
theorem mul_shift (n c M : Nat) : (n * 10 + c) * M = n * (M * 10) + c * M := by
  rw [Nat.add_mul, Nat.mul_assoc, Nat.mul_comm 10 M]
theorem dv_acc (l : List UInt8) : ∀ n, dv n l = n * 10 ^ l.length + dv 0 l := by
  induction l with
  | nil => intro n; simp [dv]
  | cons c l ih =>
    intro n
    have h1 := ih (n * 10 + (c.toNat - 48))
    have h2 := ih (0 * 10 + (c.toNat - 48))
    rw [dv_cons n, dv_cons 0, h1, h2, List.length_cons, Nat.pow_succ, mul_shift, mul_shift, Nat.zero_mul, Nat.zero_add, Nat.add_assoc]
theorem isD_le {c : UInt8} (h : isD c = true) : 48 ≤ c.toNat ∧ c.toNat ≤ 57 := by simpa [isD] using h
theorem dv_lt (l : List UInt8) (h : ∀ c ∈ l, isD c = true) : dv 0 l < 10 ^ l.length := by
  induction l with
  | nil => simp [dv]
  | cons c l ih =>
    have hc := isD_le (h c (by simp))
    have := ih (fun d hd => h d (by simp [hd]))
    rw [dv_cons, dv_acc l (0 * 10 + (c.toNat - 48)), List.length_cons, Nat.pow_succ]
    have h9 : (0 * 10 + (c.toNat - 48)) * 10 ^ l.length ≤ 9 * 10 ^ l.length := Nat.mul_le_mul_right _ (by omega)
    omega
theorem dv_ge (c : UInt8) (l : List UInt8) (h : 49 ≤ c.toNat) : 10 ^ l.length ≤ dv 0 (c :: l) := by
  rw [dv_cons, dv_acc l (0 * 10 + (c.toNat - 48))]
  have h9 : 1 * 10 ^ l.length ≤ (0 * 10 + (c.toNat - 48)) * 10 ^ l.length := Nat.mul_le_mul_right _ (by omega)
  omega

theorem less_dv (a : List UInt8) : ∀ b : List UInt8, a.length = b.length → (∀ c ∈ a, isD c = true) → (∀ c ∈ b, isD c = true) → Op.bytesLess a b = decide (dv 0 a < dv 0 b) := by
  induction a with
  | nil => intro b hl _ _; cases b with
    | nil => simp [Op.bytesLess]
    | cons => simp at hl
  | cons x a ih =>
    intro b hl ha hb
    cases b with
    | nil => simp at hl
    | cons y b =>
      have hl' : a.length = b.length := by simpa using hl
      have hx := isD_le (ha x (by simp))
      have hy := isD_le (hb y (by simp))
      have ia := dv_lt a (fun d hd => ha d (by simp [hd]))
      have ib := dv_lt b (fun d hd => hb d (by simp [hd]))
      have i := ih b hl' (fun d hd => ha d (by simp [hd])) (fun d hd => hb d (by simp [hd]))
      rw [Op.bytesLess, i, dv_cons, dv_cons, dv_acc a (0 * 10 + (x.toNat - 48)), dv_acc b (0 * 10 + (y.toNat - 48)), hl']
      rw [hl'] at ia
      generalize 10 ^ b.length = M at *
      by_cases h1 : x < y
      · have h2 : x.toNat < y.toNat := UInt8.lt_iff_toNat_lt.1 h1
        have h3 : (0 * 10 + (x.toNat - 48) + 1) * M ≤ (0 * 10 + (y.toNat - 48)) * M := Nat.mul_le_mul_right _ (by omega)
        rw [Nat.add_mul (0 * 10 + (x.toNat - 48)) 1 M] at h3
        simp only [h1, decide_true, Bool.true_or]
        exact (decide_eq_true (by omega)).symm
      · by_cases h2 : x = y
        · subst h2
          simp
        · have h3 : y.toNat < x.toNat := by
            have h4 : ¬ x.toNat < y.toNat := fun h => h1 (UInt8.lt_iff_toNat_lt.2 h)
            have h5 : x.toNat ≠ y.toNat := fun h => h2 (UInt8.toNat_inj.1 h)
            omega
          have h6 : (0 * 10 + (y.toNat - 48) + 1) * M ≤ (0 * 10 + (x.toNat - 48)) * M := Nat.mul_le_mul_right _ (by omega)
          rw [Nat.add_mul (0 * 10 + (y.toNat - 48)) 1 M] at h6
          have h7 : (x == y) = false := by simp [h2]
          simp only [h1, h7, decide_false, Bool.false_or, Bool.false_and]
          exact (decide_eq_false (by omega)).symm

theorem gtB_less (a : List UInt8) : ∀ b : List UInt8, gtB a b = Op.bytesLess b a := by
  induction a with
  | nil => intro b; cases b <;> simp [gtB, Op.bytesLess]
  | cons x a ih =>
    intro b
    cases b with
    | nil => simp [gtB, Op.bytesLess]
    | cons y b =>
      have i := ih b
      unfold gtB at i ⊢
      rw [Op.bytesLess, Op.bytesLess, ← i]
      by_cases h : x = y
      · subst h; simp
      · have h7 : (y == x) = false := by simp [Ne.symm h]
        have h8 : (x == y) = false := by simp [h]
        have h9 : (y < x) ↔ ¬ (x < y) := by
          rw [UInt8.lt_iff_toNat_lt, UInt8.lt_iff_toNat_lt]
          have h5 : x.toNat ≠ y.toNat := fun e => h (UInt8.toNat_inj.1 e)
          omega
        simp only [h7, h8, Bool.false_and, Bool.or_false, List.cons_beq_cons, Bool.not_false, Bool.and_true]
        by_cases hh : x < y
        · simp [hh, h9]
        · simp [hh, h9]

theorem dv_zeros (s : List UInt8) : dv 0 s = dv 0 (s.drop (s.takeWhile isZ).length) := by
  induction s with
  | nil => rfl
  | cons c s ih =>
    by_cases h : isZ c = true
    · rw [List.takeWhile_cons_of_pos h]
      have : c.toNat = 48 := by simpa [isZ] using h
      rw [dv_cons, this]
      simpa using ih
    · rw [List.takeWhile_cons_of_neg h]; rfl

theorem dropWhile_head (p : UInt8 → Bool) (s : List UInt8) (c : UInt8) (t : List UInt8) (h : s.drop (s.takeWhile p).length = c :: t) : p c = false := by
  induction s with
  | nil => simp at h
  | cons x s ih =>
    by_cases hp : p x = true
    · rw [List.takeWhile_cons_of_pos hp] at h
      exact ih (by simpa using h)
    · rw [List.takeWhile_cons_of_neg hp] at h
      simp at h
      rw [← h.1]; simpa using hp

theorem greatB_big (s : List UInt8) (h : ∀ c ∈ s, isD c = true) : greatB s = big s := by
  unfold greatB big
  have e : decVal s = dv 0 s := rfl
  have e0 : stop isZ s 0 = (s.takeWhile isZ).length := by simp [stop]
  rw [e, dv_zeros, e0]
  have hd : ∀ c ∈ s.drop (s.takeWhile isZ).length, isD c = true := fun c hc => h c (List.mem_of_mem_drop hc)
  generalize ht : s.drop (s.takeWhile isZ).length = t at *
  have hk : dv 0 kMost = 9223372036854775807 := by decide
  have hkl : kMost.length = 19 := rfl
  have hkd : ∀ c ∈ kMost, isD c = true := by decide
  by_cases h1 : t.length = 19
  · have := less_dv kMost t (by rw [h1]; rfl) hkd hd
    rw [gtB_less, this, hk]
    simp [h1]
  · by_cases h2 : 19 < t.length
    · cases t with
      | nil => simp at h2
      | cons c t =>
        have hz := dropWhile_head isZ s c t ht
        have hc := isD_le (hd c (by simp))
        have h49 : 49 ≤ c.toNat := by
          have : ¬ c.toNat = 48 := by simpa [isZ] using hz
          omega
        have hge := dv_ge c t h49
        have h3 : (10 : Nat) ^ 19 ≤ 10 ^ t.length := Nat.pow_le_pow_right (by decide) (by simp at h2; omega)
        have h4 : (10 : Nat) ^ 19 = 10000000000000000000 := by decide
        simp only [h2, decide_true, Bool.true_or]
        exact (decide_eq_true (by omega)).symm
    · have hlt := dv_lt t hd
      have h3 : (10 : Nat) ^ t.length ≤ 10 ^ 18 := Nat.pow_le_pow_right (by decide) (by omega)
      have h4 : (10 : Nat) ^ 18 = 1000000000000000000 := by decide
      simp only [h1, h2, decide_false, Bool.false_and, Bool.or_false]
      exact (decide_eq_false (by omega)).symm
end Go.Proofs.YtfkdailfcmnjlaaGreatDoor
