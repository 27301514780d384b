/-
  Compiling: what is known along the instructions of a condition. Compiling: the instructions of all items: what they say, what is known along them. Compiling: the bytes of instructions, and that they are read again as they were.
-/
import Derived.Test.YtfkdailfcmnjlaaGreatDoorCompiles01
import Derived.Test.YtfkdailfcmnjlaaGreatDoorCompiles02
import Derived.Test.YtfkdailfcmnjlaaGreatDoorCompiles04
import Derived.Test.YtfkdailfcmnjlaaGreatDoorCompiles05
import Derived.Test.YtfkdailfcmnjlaaGreatDoorCompiles06
import Derived.Test.YtfkdailfcmnjlaaGreatDoorCompiles07
import Derived.Test.YtfkdailfcmnjlaaGreatDoorCompiles08
import Derived.Test.YtfkdailfcmnjlaaGreatDoorCompiles09
import Derived.Test.YtfkdailfcmnjlaaGreatDoorCompiles10
import Derived.Test.YtfkdailfcmnjlaaGreatDoorCompiles11
import Derived.Test.YtfkdailfcmnjlaaGreatDoorCompiles12
import Derived.Test.YtfkdailfcmnjlaaGreatDoorCompiles13
import Derived.Test.YtfkdailfcmnjlaaGreatDoorCompiles14
import Derived.Test.YtfkdailfcmnjlaaGreatDoorCompiles15
import Derived.Test.YtfkdailfcmnjlaaGreatDoorCompiles16
import Derived.Test.YtfkdailfcmnjlaaGreatDoorCompiles17
import Derived.Test.YtfkdailfcmnjlaaGreatDoorCompiles18
import Derived.Test.YtfkdailfcmnjlaaGreatDoorCompiles19
import Derived.Test.YtfkdailfcmnjlaaGreatDoorCompiles24
import Derived.Test.YtfkdailfcmnjlaaGreatDoorCompiles25
import Derived.Test.YtfkdailfcmnjlaaGreatDoorLays
import Derived.WalkKit
import Derived.Deep.QuietTactic
import Derived.BigQuiet
import Derived.WalkSpells
import GoSem.Op.String
import Derived.Deep.AppendLies
import Derived.Deep.RegionHeld3
import Derived.Deep.DrawnRows
import Derived.Deep.RegionHeldLaw
import Derived.Deep.RegionLaw
import Derived.Lib.ParseIntBCases
set_option linter.unusedVariables false
set_option linter.unusedSimpArgs false
namespace Go.Proofs.YtfkdailfcmnjlaaGreatDoor
open Go Go.RowKit
set_option maxRecDepth 100000

/-- An instruction's number may be written. -/
structure FitN (cells op : Nat) (n : Int) : Prop where
  ops : 1 ≤ op ∧ op ≤ 18
  big : op = 1 → In64 n
  two : sizeOp op = 2 → 0 ≤ n ∧ n ≤ boundOp op cells ∧ n ≤ 255
  one : sizeOp op = 1 → n = 0
/-- What is known at a place. -/
def StartK (F : List In4) (p : Nat) (k : Kn) : Prop := ∃ y, F[p]? = some y ∧ y.kn = k
/-- An instruction finds what it wants, and leaves what is known where it leads. -/
structure CertAt (F : List In4) (dep cells i : Nat) (x : In4) : Prop where
  num : FitN cells x.op x.n
  len : x.kn.cl.length = cells
  doe : ∃ k', doesK x.op x.n.toNat x.kn = some k' ∧ k'.st.length ≤ dep ∧ (x.op ≠ 16 → x.op ≠ 17 → x.op ≠ 18 → StartK F (i + 1) k') ∧ (x.op = 15 ∨ x.op = 16 → i < x.to ∧ StartK F x.to k')
theorem gen_start {F : List In4} {jmp : Bool} (d : Nat) : ∀ {t : Tr} {k : Kn} {m : Option Bool} {p T : Nat}, WfT d t → Sub F p (gen jmp d m t k p T) → (m ≠ none → StartK F (p + szG jmp d m t) k) → StartK F p k := by
  induction d with
  | zero => intro t k m p T h; exact h.elim
  | succ d ih =>
    intro t k m p T h hS hC
    have hw := h.2
    have LAY : Sub F p (gen jmp (d + 1) none t k p 0) → StartK F p k := by
      intro hS
      rcases h.1 with ⟨hk, hs, _⟩ | ⟨hk, a, hs⟩ | ⟨hk, a, b, c, hs⟩ | ⟨hk, a, b, hs⟩
      · have h14 : ¬ t.k = 14 := by unfold leafK at hk; omega
        have h19 : ¬ t.k = 19 := by unfold leafK at hk; omega
        simp only [gen, if_neg h14, if_neg h19, hs, List.length_nil] at hS
        rw [if_neg (by decide)] at hS
        exact ⟨_, hS.head, rfl⟩
      · have h14 : ¬ t.k = 14 := by omega
        simp only [gen, if_neg h14, if_pos hk] at hS
        have e0 : t.kid 0 = a := by unfold Tr.kid; rw [hs]; rfl
        rw [e0] at hS
        exact ih (m := none) (hw a (by rw [hs]; simp)) hS.left (by simp)
      · simp only [gen, if_pos hk] at hS
        have e0 : t.kid 0 = a := by unfold Tr.kid; rw [hs]; rfl
        have e1 : t.kid 1 = b := by unfold Tr.kid; rw [hs]; rfl
        rw [e0, e1] at hS
        have hS1 := hS.right (gen_len _ _ _ _ _ _ _)
        have hb := ih (m := none) (hw b (by rw [hs]; simp)) hS1.left (by simp)
        exact ih (m := some false) (hw a (by rw [hs]; simp)) hS.left (fun _ => hb)
      · have h14 : ¬ t.k = 14 := by unfold twoK at hk; omega
        have h19 : ¬ t.k = 19 := by unfold twoK at hk; omega
        have hl : t.kids.length = 2 := by rw [hs]; rfl
        simp only [gen, if_neg h14, if_neg h19, if_pos hl] at hS
        have e0 : t.kid 0 = a := by unfold Tr.kid; rw [hs]; rfl
        rw [e0] at hS
        exact ih (m := none) (hw a (by rw [hs]; simp)) hS.left (by simp)
    cases m with
    | none => exact LAY hS
    | some this =>
      have hC := hC (by simp)
      cases hj : byJ jmp t.k with
      | false =>
        have hgen : gen jmp (d + 1) (some this) t k p T = gen jmp (d + 1) none t k p 0 ++ ((if this then [⟨12, 0, 0, ⟨2 :: k.st, k.cl⟩⟩] else []) ++ [⟨15, 0, T, ⟨2 :: k.st, k.cl⟩⟩]) := by
          simp only [gen, hj]; rfl
        rw [hgen] at hS
        exact LAY hS.left
      | true =>
        simp only [gen, szG, hj, if_true] at hS hC
        rcases h.1 with ⟨hk, hs, _⟩ | ⟨hk, a, hs⟩ | ⟨hk, a, b, c, hs⟩ | ⟨hk, a, b, hs⟩
        · have h2 : t.k = 20 ∨ t.k = 21 := by
            unfold byJ at hj; unfold leafK at hk
            simp at hj; omega
          rw [if_pos h2] at hS hC
          by_cases g : this = decide (t.k = 20)
          · rw [if_pos g] at hS; exact ⟨_, hS.head, rfl⟩
          · rw [if_neg g] at hC; exact hC
        · have h2 : ¬ (t.k = 20 ∨ t.k = 21) := by omega
          rw [if_neg h2, if_pos hk] at hS hC
          have e0 : t.kid 0 = a := by unfold Tr.kid; rw [hs]; rfl
          rw [e0] at hS hC
          exact ih (m := some (!this)) (hw a (by rw [hs]; simp)) hS (fun _ => hC)
        · have h2 : ¬ (t.k = 20 ∨ t.k = 21) := by omega
          have h19 : ¬ t.k = 19 := by omega
          rw [if_neg h2, if_neg h19, if_pos hk] at hS hC
          have e0 : t.kid 0 = a := by unfold Tr.kid; rw [hs]; rfl
          have e1 : t.kid 1 = b := by unfold Tr.kid; rw [hs]; rfl
          rw [e0, e1] at hS hC
          have hS1 := hS.right (gen_len _ _ _ _ _ _ _)
          have hS2 := hS1.right (gen_len _ _ _ _ _ _ _)
          have hb := ih (m := some this) (hw b (by rw [hs]; simp)) hS1.left (fun _ => ⟨_, hS2.head, rfl⟩)
          exact ih (m := some false) (hw a (by rw [hs]; simp)) hS.left (fun _ => hb)
        · have h2 : ¬ (t.k = 20 ∨ t.k = 21) := by unfold twoK at hk; omega
          have h19 : ¬ t.k = 19 := by unfold twoK at hk; omega
          have h14 : ¬ t.k = 14 := by unfold twoK at hk; omega
          rw [if_neg h2, if_neg h19, if_neg h14] at hS hC
          have e0 : t.kid 0 = a := by unfold Tr.kid; rw [hs]; rfl
          have e1 : t.kid 1 = b := by unfold Tr.kid; rw [hs]; rfl
          rw [e0, e1] at hS hC
          have hSB := hS.right (gen_len _ _ _ _ _ _ _)
          have hb := ih (m := some this) (hw b (by rw [hs]; simp)) hSB (fun _ => by rw [Nat.add_assoc]; exact hC)
          exact ih (m := some (decide (t.k = 17))) (hw a (by rw [hs]; simp)) hS.left (fun _ => hb)
theorem does_word {cl : List Nat} {st : List Nat} {t : Tr} (hk : leafK t.k) (hl : t.k = 2 → 0 ≤ t.l) (hty : wordTy cl t ≠ 0) : doesK (wordOp t) (wordN t).toNat ⟨st, cl⟩ = some ⟨wordTy cl t :: st, cl⟩ := by
  unfold leafK at hk
  unfold wordOp wordN wordTy at *
  by_cases h27 : 27 ≤ t.k
  · simp [doesK, h27, show ¬ t.k = 1 by omega, show ¬ t.k = 2 by omega]
  · by_cases h22 : 22 ≤ t.k
    · simp [doesK, h27, h22, show ¬ t.k = 1 by omega, show ¬ t.k = 2 by omega]
    · by_cases h1 : t.k = 1
      · simp [doesK, h1]
      · by_cases h2 : t.k = 2
        · simp [h2, -List.getD_eq_getElem?_getD] at hty ⊢
          simp [doesK, hty, -List.getD_eq_getElem?_getD]
        · simp [doesK, h27, h22, h1, h2]
theorem fit_word {cl : List Nat} {t : Tr} (hk : leafK t.k) (hn : t.k = 1 → In64 t.n) (hl : t.k = 2 → 0 ≤ t.l) (hty : wordTy cl t ≠ 0) (hc : cl.length ≤ 255) : FitN cl.length (wordOp t) (wordN t) := by
  unfold leafK at hk
  by_cases h27 : 27 ≤ t.k
  · have e1 : wordOp t = 4 := by simp [wordOp, h27]
    have e2 : wordN t = ((t.k - 27 : Nat) : Int) := by simp [wordN, h27]
    rw [e1, e2]
    exact ⟨by omega, by omega, fun _ => by unfold boundOp; simp; omega, fun g => by simp [sizeOp] at g⟩
  · by_cases h22 : 22 ≤ t.k
    · have e1 : wordOp t = 3 := by simp [wordOp, h27, h22]
      have e2 : wordN t = ((t.k - 22 : Nat) : Int) := by simp [wordN, h27, h22]
      rw [e1, e2]
      exact ⟨by omega, by omega, fun _ => by unfold boundOp; simp; omega, fun g => by simp [sizeOp] at g⟩
    · by_cases h1 : t.k = 1
      · have e1 : wordOp t = 1 := by simp [wordOp, h1]
        have e2 : wordN t = t.n := by simp [wordN, h1]
        rw [e1, e2]
        exact ⟨by omega, fun _ => hn h1, fun g => by simp [sizeOp] at g, fun g => by simp [sizeOp] at g⟩
      · by_cases h2 : t.k = 2
        · have e1 : wordOp t = 6 := by simp [wordOp, h2]
          have e2 : wordN t = t.l := by simp [wordN, h2]
          have hl := hl h2
          have : t.l.toNat < cl.length := by
            refine Nat.lt_of_not_le fun g => hty ?_
            unfold wordTy
            rw [if_neg h1, if_pos h2, List.getD_eq_getElem?_getD, List.getElem?_eq_none g]; rfl
          rw [e1, e2]
          exact ⟨by omega, by omega, fun _ => by unfold boundOp; simp; omega, fun g => by simp [sizeOp] at g⟩
        · have e1 : wordOp t = 2 := by simp [wordOp, h27, h22, h1, h2]
          have e2 : wordN t = truthI (decide (t.k = 20)) := by simp [wordN, h27, h22, h1, h2]
          rw [e1, e2]
          exact ⟨by omega, by omega, fun _ => by unfold boundOp; cases decide (t.k = 20) <;> simp [truthI], fun g => by simp [sizeOp] at g⟩
theorem does_over {cl st : List Nat} {k ta tb : Nat} (hk : twoK k) (hty : overTy k [ta, tb] ≠ 0) : doesK (overOp k) 0 ⟨tb :: ta :: st, cl⟩ = some ⟨overTy k [ta, tb] :: st, cl⟩ := by
  unfold twoK at hk
  rcases hk with rfl | rfl | rfl | rfl | rfl | rfl | rfl <;> simp [overTy] at hty ⊢ <;> (try simp [doesK, overOp, takesK, hty]) <;> omega
theorem fit_op {cells op : Nat} (h : 7 ≤ op ∧ op ≤ 16) : FitN cells op 0 := by
  refine ⟨by omega, by omega, fun g => ?_, fun _ => rfl⟩
  exfalso
  unfold sizeOp at g
  rw [if_neg (by omega), if_neg (by omega)] at g
  (repeat' split at g) <;> omega
theorem over_in (k : Nat) : 7 ≤ overOp k ∧ overOp k ≤ 14 := by unfold overOp; (repeat' split) <;> omega

/-- What a condition leaves. -/
def leftK (m : Option Bool) (ty : Nat) (k : Kn) : Kn := match m with
  | none => ⟨ty :: k.st, k.cl⟩
  | some _ => k
def AllCert (F : List In4) (dep cells p q : Nat) : Prop := ∀ i x, p ≤ i → i < q → F[i]? = some x → CertAt F dep cells i x
theorem AllCert.join {F : List In4} {dep cells p q r : Nat} (h1 : AllCert F dep cells p q) (h2 : AllCert F dep cells q r) : AllCert F dep cells p r := fun i x g1 g2 hx => by
  by_cases g : i < q
  · exact h1 i x g1 g hx
  · exact h2 i x (by omega) g2 hx
theorem AllCert.one {F : List In4} {dep cells p : Nat} {x : In4} (hx : F[p]? = some x) (h : CertAt F dep cells p x) : AllCert F dep cells p (p + 1) := fun i y g1 g2 hy => by
  obtain rfl : i = p := by omega
  rw [hx] at hy; cases hy; exact h
theorem AllCert.cast {F : List In4} {dep cells p q q' : Nat} (h : AllCert F dep cells p q) (e : q = q') : AllCert F dep cells p q' := e ▸ h
theorem StartK.cast {F : List In4} {p q : Nat} {k : Kn} (h : StartK F p k) (e : p = q) : StartK F q k := e ▸ h
theorem dpG_lay {jmp : Bool} (d : Nat) : ∀ {t : Tr} {b : Nat}, WfT d t → b + 1 ≤ dpG jmp d none t b := by
  induction d with
  | zero => intro t b h; exact h.elim
  | succ d ih =>
    intro t b h
    have hw := h.2
    rcases h.1 with ⟨hk, hs, _⟩ | ⟨hk, a, hs⟩ | ⟨hk, a, b', c, hs⟩ | ⟨hk, a, b', hs⟩
    · have h14 : ¬ t.k = 14 := by unfold leafK at hk; omega
      have h19 : ¬ t.k = 19 := by unfold leafK at hk; omega
      simp only [dpG, if_neg h14, if_neg h19, hs, List.length_nil]
      rw [if_neg (by decide)]; exact Nat.le_refl _
    · have h14 : ¬ t.k = 14 := by omega
      have e0 : t.kid 0 = a := by unfold Tr.kid; rw [hs]; rfl
      simp only [dpG, if_neg h14, if_pos hk, e0]
      exact ih (hw a (by rw [hs]; simp))
    · have e1 : t.kid 1 = b' := by unfold Tr.kid; rw [hs]; rfl
      simp only [dpG, if_pos hk, e1]
      have := ih (b := b) (hw b' (by rw [hs]; simp))
      omega
    · have h14 : ¬ t.k = 14 := by unfold twoK at hk; omega
      have h19 : ¬ t.k = 19 := by unfold twoK at hk; omega
      have hl : t.kids.length = 2 := by rw [hs]; rfl
      have e0 : t.kid 0 = a := by unfold Tr.kid; rw [hs]; rfl
      simp only [dpG, if_neg h14, if_neg h19, if_pos hl, e0]
      have := ih (b := b) (hw a (by rw [hs]; simp))
      omega
theorem gen_cert {F : List In4} {jmp : Bool} {dep cells : Nat} (hcl : cells ≤ 255) (d : Nat) : ∀ {t : Tr} {k : Kn} {m : Option Bool} {p T : Nat}, WfT d t → k.cl.length = cells → tyTr k.cl d t ≠ 0 → (m ≠ none → tyTr k.cl d t = 2) → k.st.length ≤ dep → dpG jmp d m t k.st.length ≤ dep → Sub F p (gen jmp d m t k p T) → StartK F (p + szG jmp d m t) (leftK m (tyTr k.cl d t) k) → (m ≠ none → p + szG jmp d m t ≤ T ∧ StartK F T k) → AllCert F dep cells p (p + szG jmp d m t) := by
  induction d with
  | zero => intro t k m p T h; exact h.elim
  | succ d ih =>
    intro t k m p T h hkl hty hm hdp hdq hS hE hT
    have hkt := kids_ty h hty
    have hw := h.2
    have LAY : dpG jmp (d + 1) none t k.st.length ≤ dep → Sub F p (gen jmp (d + 1) none t k p 0) → StartK F (p + szG jmp (d + 1) none t) ⟨tyTr k.cl (d + 1) t :: k.st, k.cl⟩ → AllCert F dep cells p (p + szG jmp (d + 1) none t) := by
      intro hdq hS hE
      have hd1 := Nat.le_trans (dpG_lay (jmp := jmp) (d + 1) (b := k.st.length) h) hdq
      rcases h.1 with ⟨hk, hs, hn, hl⟩ | ⟨hk, a, hs⟩ | ⟨hk, a, b, c, hs⟩ | ⟨hk, a, b, hs⟩
      · have h14 : ¬ t.k = 14 := by unfold leafK at hk; omega
        have h19 : ¬ t.k = 19 := by unfold leafK at hk; omega
        have ety : tyTr k.cl (d + 1) t = wordTy k.cl t := by rw [tyTr, if_pos hs]
        rw [ety] at hty hE
        simp only [gen, szG, if_neg h14, if_neg h19, hs, List.length_nil] at hS hE ⊢
        rw [if_neg (by decide)] at hS hE ⊢
        refine AllCert.one hS.head ⟨hkl ▸ fit_word hk hn hl hty (by omega), hkl, _, does_word (st := k.st) hk hl hty, by simp; omega, fun _ _ _ => hE, fun g => ?_⟩
        exfalso
        have g : wordOp t = 15 ∨ wordOp t = 16 := g
        unfold wordOp at g
        (repeat' split at g) <;> omega
      · have h14 : ¬ t.k = 14 := by omega
        have e0 : t.kid 0 = a := by unfold Tr.kid; rw [hs]; rfl
        simp only [gen, szG, dpG, if_neg h14, if_pos hk, e0] at hS hE hdq ⊢
        have ha := hw a (by rw [hs]; simp)
        have hta := hkt a (by rw [hs]; simp)
        have hta2 : tyTr k.cl d a = 2 := by
          rw [tyTr, hs, if_neg (by simp)] at hty
          simp only [List.map_cons, List.map_nil, overTy] at hty
          split at hty
          · rename_i g; exact g
          · exact absurd rfl hty
        have ety : tyTr k.cl (d + 1) t = 2 := by
          rw [tyTr, hs, if_neg (by simp)]; simp only [List.map_cons, List.map_nil, overTy]; rw [if_pos hta2]
        rw [ety] at hE
        have hS1 := (hS.right (gen_len _ _ _ _ _ _ _)).head
        refine (ih (m := none) ha hkl hta (by simp) hdp (by omega) hS.left ⟨_, hS1, ?_⟩ (by simp)).join ((AllCert.one hS1 ⟨fit_op (by simp), hkl, ⟨2 :: k.st, k.cl⟩, rfl, by simp; omega, fun _ _ _ => hE.cast (by omega), fun g => ?_⟩).cast (by omega))
        · show _ = (⟨tyTr k.cl d a :: k.st, k.cl⟩ : Kn); rw [hta2]
        · exfalso; simp at g
      · have e0 : t.kid 0 = a := by unfold Tr.kid; rw [hs]; rfl
        have e1 : t.kid 1 = b := by unfold Tr.kid; rw [hs]; rfl
        have e2 : t.kid 2 = c := by unfold Tr.kid; rw [hs]; rfl
        simp only [gen, szG, dpG, if_pos hk, e0, e1, e2] at hS hE hdq ⊢
        have ha := hw a (by rw [hs]; simp)
        have hb := hw b (by rw [hs]; simp)
        have hc := hw c (by rw [hs]; simp)
        have hta := hkt a (by rw [hs]; simp)
        have htb := hkt b (by rw [hs]; simp)
        have htc := hkt c (by rw [hs]; simp)
        have htt : tyTr k.cl d a = 2 ∧ tyTr k.cl d b = tyTr k.cl d c := by
          rw [tyTr, hs, if_neg (by simp)] at hty
          simp only [List.map_cons, List.map_nil, overTy] at hty
          split at hty
          · rename_i g; exact g
          · exact absurd rfl hty
        have ety : tyTr k.cl (d + 1) t = tyTr k.cl d b := by
          rw [tyTr, hs, if_neg (by simp)]; simp only [List.map_cons, List.map_nil, overTy]; rw [if_pos htt]
        rw [ety] at hE
        have hSA := hS.left
        have hS1 := hS.right (gen_len _ _ _ _ _ _ _)
        have hSB := hS1.left
        have hS2 := hS1.right (gen_len _ _ _ _ _ _ _)
        have hSC := hS2.tail
        have kB := gen_start d (m := none) hb hSB (by simp)
        have kC := gen_start d (m := none) hc hSC (by simp)
        have cA := ih (m := some false) ha hkl hta (fun _ => htt.1) hdp (by omega) hSA kB (fun _ => ⟨by omega, kC⟩)
        have cB := ih (m := none) hb hkl htb (by simp) hdp (by omega) hSB ⟨_, hS2.head, rfl⟩ (by simp)
        have cC := ih (m := none) hc hkl htc (by simp) hdp (by omega) hSC (by show StartK F _ (⟨tyTr k.cl d c :: k.st, k.cl⟩ : Kn); rw [← htt.2]; exact hE.cast (by omega)) (by simp)
        have cJ := AllCert.one (dep := dep) (cells := cells) hS2.head ⟨fit_op (by simp), hkl, ⟨tyTr k.cl d b :: k.st, k.cl⟩, rfl, by simp; omega, fun g => by simp at g, fun _ => ⟨by simp; omega, hE.cast (by simp; omega)⟩⟩
        exact ((cA.join cB).join (cJ.join cC)).cast (by omega)
      · have h14 : ¬ t.k = 14 := by unfold twoK at hk; omega
        have h19 : ¬ t.k = 19 := by unfold twoK at hk; omega
        have hl : t.kids.length = 2 := by rw [hs]; rfl
        have e0 : t.kid 0 = a := by unfold Tr.kid; rw [hs]; rfl
        have e1 : t.kid 1 = b := by unfold Tr.kid; rw [hs]; rfl
        simp only [gen, szG, dpG, if_neg h14, if_neg h19, if_pos hl, e0, e1] at hS hE hdq ⊢
        have ha := hw a (by rw [hs]; simp)
        have hb := hw b (by rw [hs]; simp)
        have hta := hkt a (by rw [hs]; simp)
        have htb := hkt b (by rw [hs]; simp)
        rw [ty_two hs] at hty hE
        have hS1 := hS.right (gen_len _ _ _ _ _ _ _)
        have hS2 := (hS1.right (gen_len _ _ _ _ _ _ _)).head
        have kB := gen_start d (m := none) hb hS1.left (by simp)
        have cA := ih (m := none) ha hkl hta (by simp) hdp (by omega) hS.left kB (by simp)
        have cB := ih (m := none) (k := ⟨tyTr k.cl d a :: k.st, k.cl⟩) hb hkl htb (by simp) (by simp; omega) (by simp; omega) hS1.left ⟨_, hS2, rfl⟩ (by simp)
        have ov := over_in t.k
        have cJ := AllCert.one (dep := dep) (cells := cells) hS2 ⟨fit_op (by simp; omega), hkl, _, does_over hk hty, by simp; omega, fun _ _ _ => hE.cast (by omega), fun g => by simp at g; omega⟩
        exact ((cA.join cB).join cJ).cast (by omega)
    cases m with
    | none => exact LAY hdq hS hE
    | some this =>
      have hE : StartK F (p + szG jmp (d + 1) (some this) t) k := hE
      obtain ⟨hT1, hT2⟩ := hT (by simp)
      have hty2 : tyTr k.cl (d + 1) t = 2 := hm (by simp)
      cases hj : byJ jmp t.k with
      | false =>
        have hgen : gen jmp (d + 1) (some this) t k p T = gen jmp (d + 1) none t k p 0 ++ ((if this then [⟨12, 0, 0, ⟨2 :: k.st, k.cl⟩⟩] else []) ++ [⟨15, 0, T, ⟨2 :: k.st, k.cl⟩⟩]) := by
          simp only [gen, hj]; rfl
        have hsz : szG jmp (d + 1) (some this) t = szG jmp (d + 1) none t + (if this then 2 else 1) := by
          simp only [szG, hj]; rfl
        rw [hgen] at hS
        rw [hsz] at hE hT1 ⊢
        have hdq2 : dpG jmp (d + 1) none t k.st.length ≤ dep := by
          have e : dpG jmp (d + 1) (some this) t k.st.length = dpG jmp (d + 1) none t k.st.length := by simp only [dpG, hj]; rfl
          omega
        have hdl := dpG_lay (jmp := jmp) (d + 1) (b := k.st.length) h
        have hS1 := hS.right (gen_len _ _ _ _ _ _ _)
        have hd1 : doesK 15 0 ⟨2 :: k.st, k.cl⟩ = some ⟨k.st, k.cl⟩ := rfl
        cases this with
        | true =>
          have hh1 := Sub.head (s := [⟨15, 0, T, ⟨2 :: k.st, k.cl⟩⟩]) hS1
          have hh2 := Sub.head (Sub.tail (x := ⟨12, 0, 0, ⟨2 :: k.st, k.cl⟩⟩) hS1)
          have c0 := LAY hdq2 hS.left ⟨_, hh1, by rw [hty2]⟩
          have c1 := AllCert.one (dep := dep) (cells := cells) hh1 ⟨fit_op (by simp), hkl, ⟨2 :: k.st, k.cl⟩, rfl, by simp; omega, fun _ _ _ => ⟨_, hh2, rfl⟩, fun g => by simp at g⟩
          have c2 := AllCert.one (dep := dep) (cells := cells) hh2 ⟨fit_op (by simp), hkl, _, hd1, by simp; omega, fun _ _ _ => hE.cast (by simp; omega), fun _ => ⟨by simp at hT1 ⊢; omega, hT2⟩⟩
          exact ((c0.join c1).join c2).cast (by simp; omega)
        | false =>
          have hh1 := Sub.head (s := []) hS1
          have c0 := LAY hdq2 hS.left ⟨_, hh1, by rw [hty2]⟩
          have c2 := AllCert.one (dep := dep) (cells := cells) hh1 ⟨fit_op (by simp), hkl, _, hd1, by simp; omega, fun _ _ _ => hE.cast (by simp; omega), fun _ => ⟨by simp at hT1 ⊢; omega, hT2⟩⟩
          exact (c0.join c2).cast (by simp; omega)
      | true =>
        simp only [gen, szG, dpG, hj, if_true] at hS hE hT1 hdq ⊢
        rcases h.1 with ⟨hk, hs, _⟩ | ⟨hk, a, hs⟩ | ⟨hk, a, b, c, hs⟩ | ⟨hk, a, b, hs⟩
        · have h2 : t.k = 20 ∨ t.k = 21 := by
            unfold byJ at hj; unfold leafK at hk
            simp at hj; omega
          rw [if_pos h2] at hS hE hT1 ⊢
          by_cases g : this = decide (t.k = 20)
          · rw [if_pos g] at hS hE hT1 ⊢
            exact AllCert.one hS.head ⟨fit_op (by simp), hkl, k, rfl, by omega, fun g => by simp at g, fun _ => ⟨by simp; omega, hT2⟩⟩
          · rw [if_neg g]; intro i x g1 g2; omega
        · have h2 : ¬ (t.k = 20 ∨ t.k = 21) := by omega
          rw [if_neg h2, if_pos hk] at hS hE hT1 hdq ⊢
          have e0 : t.kid 0 = a := by unfold Tr.kid; rw [hs]; rfl
          rw [e0] at hS hE hT1 hdq ⊢
          have ha := hw a (by rw [hs]; simp)
          have hta := hkt a (by rw [hs]; simp)
          have hta2 : tyTr k.cl d a = 2 := by
            rw [tyTr, hs, if_neg (by simp)] at hty
            simp only [List.map_cons, List.map_nil, overTy] at hty
            split at hty
            · rename_i g; exact g
            · exact absurd rfl hty
          exact ih (m := some (!this)) ha hkl hta (fun _ => hta2) hdp hdq hS hE (fun _ => ⟨hT1, hT2⟩)
        · have h2 : ¬ (t.k = 20 ∨ t.k = 21) := by omega
          have h19 : ¬ t.k = 19 := by omega
          have e0 : t.kid 0 = a := by unfold Tr.kid; rw [hs]; rfl
          have e1 : t.kid 1 = b := by unfold Tr.kid; rw [hs]; rfl
          have e2 : t.kid 2 = c := by unfold Tr.kid; rw [hs]; rfl
          rw [if_neg h2, if_neg h19, if_pos hk, e0, e1, e2] at hS hE hT1 hdq ⊢
          have ha := hw a (by rw [hs]; simp)
          have hb := hw b (by rw [hs]; simp)
          have hc := hw c (by rw [hs]; simp)
          have hta := hkt a (by rw [hs]; simp)
          have htb := hkt b (by rw [hs]; simp)
          have htc := hkt c (by rw [hs]; simp)
          have htt : tyTr k.cl d a = 2 ∧ tyTr k.cl d b = 2 ∧ tyTr k.cl d c = 2 := by
            rw [tyTr, hs, if_neg (by simp)] at hty2
            simp only [List.map_cons, List.map_nil, overTy] at hty2
            split at hty2
            · rename_i g; exact ⟨g.1, hty2, by rw [← g.2]; exact hty2⟩
            · cases hty2
          have hSA := hS.left
          have hS1 := hS.right (gen_len _ _ _ _ _ _ _)
          have hSB := hS1.left
          have hS2 := hS1.right (gen_len _ _ _ _ _ _ _)
          have hSC := hS2.tail
          have kJ : StartK F (p + szG jmp d (some false) a + szG jmp d (some this) b) k := ⟨_, hS2.head, rfl⟩
          have kB := gen_start d (m := some this) hb hSB (fun _ => kJ)
          have kE : StartK F (p + szG jmp d (some false) a + szG jmp d (some this) b + 1 + szG jmp d (some this) c) k := hE.cast (by omega)
          have kC := gen_start d (m := some this) hc hSC (fun _ => kE)
          have cA := ih (m := some false) ha hkl hta (fun _ => htt.1) hdp (by omega) hSA kB (fun _ => ⟨by omega, kC⟩)
          have cB := ih (m := some this) hb hkl htb (fun _ => htt.2.1) hdp (by omega) hSB kJ (fun _ => ⟨by omega, hT2⟩)
          have cC := ih (m := some this) hc hkl htc (fun _ => htt.2.2) hdp (by omega) hSC kE (fun _ => ⟨by omega, hT2⟩)
          have cJ := AllCert.one (dep := dep) (cells := cells) hS2.head ⟨fit_op (by simp), hkl, k, rfl, by omega, fun g => by simp at g, fun _ => ⟨by simp; omega, kE⟩⟩
          exact ((cA.join cB).join (cJ.join cC)).cast (by omega)
        · have h2 : ¬ (t.k = 20 ∨ t.k = 21) := by unfold twoK at hk; omega
          have h19 : ¬ t.k = 19 := by unfold twoK at hk; omega
          have h14 : ¬ t.k = 14 := by unfold twoK at hk; omega
          have e0 : t.kid 0 = a := by unfold Tr.kid; rw [hs]; rfl
          have e1 : t.kid 1 = b := by unfold Tr.kid; rw [hs]; rfl
          rw [if_neg h2, if_neg h19, if_neg h14, e0, e1] at hS hE hT1 hdq ⊢
          have hor : t.k = 17 ∨ t.k = 18 := by
            unfold byJ at hj; unfold twoK at hk
            simp at hj; omega
          have ha := hw a (by rw [hs]; simp)
          have hb := hw b (by rw [hs]; simp)
          have hta := hkt a (by rw [hs]; simp)
          have htb := hkt b (by rw [hs]; simp)
          have htt : tyTr k.cl d a = 2 ∧ tyTr k.cl d b = 2 := by
            rw [ty_two hs] at hty
            simp only [overTy] at hty
            rw [if_neg (by omega), if_neg (by omega), if_neg (by omega)] at hty
            split at hty
            · rename_i g; exact g
            · exact absurd rfl hty
          have hSB := hS.right (gen_len _ _ _ _ _ _ _)
          have kE : StartK F (p + szG jmp d (some (decide (t.k = 17))) a + szG jmp d (some this) b) k := hE.cast (by omega)
          have kB := gen_start d (m := some this) hb hSB (fun _ => kE)
          have cA := ih (m := some (decide (t.k = 17))) ha hkl hta (fun _ => htt.1) hdp (by omega) hS.left kB (fun _ => by
            split
            · exact ⟨by omega, hT2⟩
            · exact ⟨by omega, kE⟩)
          have cB := ih (m := some this) hb hkl htb (fun _ => htt.2) hdp (by omega) hSB kE (fun _ => ⟨by omega, hT2⟩)
          exact (cA.join cB).cast (by omega)
end Go.Proofs.YtfkdailfcmnjlaaGreatDoor

namespace Go.Proofs.YtfkdailfcmnjlaaGreatDoor
open Go Go.RowKit
set_option maxRecDepth 100000

def verdictOp (kind : Nat) : Nat := if kind = 12 then 17 else 18
/-- The instructions of items. -/
def genI (jmp : Bool) (d : Nat) : List ItT → List Nat → Nat → List In4
  | [], lt, _ => [⟨18, 0, 0, ⟨[], lt⟩⟩]
  | x :: r, lt, p =>
    if x.kind = 11 then gen jmp d none x.c ⟨[], lt⟩ p 0 ++ (⟨5, x.wh, 0, ⟨[tyTr lt d x.c], lt⟩⟩ :: genI jmp d r (lt.set x.wh (tyTr lt d x.c)) (p + szG jmp d none x.c + 1))
    else gen jmp d (some false) x.c ⟨[], lt⟩ p (p + szG jmp d (some false) x.c + 1) ++ (⟨verdictOp x.kind, x.wh, 0, ⟨[], lt⟩⟩ :: genI jmp d r lt (p + szG jmp d (some false) x.c + 1))
/-- How deep the stack is at most. -/
def dpI (jmp : Bool) (d : Nat) : List ItT → Nat
  | [] => 0
  | x :: r => max (dpG jmp d (if x.kind = 11 then none else some false) x.c 0) (dpI jmp d r)
theorem dpI_le (jmp : Bool) (d : Nat) : ∀ l : List ItT, dpI jmp d l ≤ d
  | [] => Nat.zero_le _
  | x :: r => by
    have h1 := dpG_le jmp d (if x.kind = 11 then none else some false) x.c 0
    have h2 := dpI_le jmp d r
    rw [dpI]; omega
theorem genI_says {F : List In4} {fl : List Int} {jmp : Bool} {d : Nat} (hF : FieldsT fl) : ∀ {l : List ItT} {lt : List Nat} {cl : List Int} {p : Nat}, TyI d lt l → lt.length = cl.length → LetsT lt cl → Sub F p (genI jmp d l lt p) → Says F fl p [] cl (meanT d fl cl l)
  | [], lt, cl, p, _, _, _, hS => Says.stop (x := ⟨18, 0, 0, ⟨[], lt⟩⟩) hS.head (.inr rfl)
  | x :: r, lt, cl, p, hT, hl, hV, hS => by
    obtain ⟨hw, hty, hT⟩ := hT
    rcases hT with ⟨hk, hx, hT⟩ | ⟨hk, ht2, hx, hT⟩
    · rw [genI, if_pos hk] at hS
      rw [meanT, if_pos hk]
      have hS1 := hS.right (gen_len _ _ _ _ _ _ _)
      refine gen_says hF d (k := ⟨[], lt⟩) (m := none) hw hty (by simp) hV hS.left ?_
      refine .go hS1.head (by simp) (st' := []) (cl' := cl.set x.wh (evT cl fl d x.c)) (j := false) rfl ?_
      exact genI_says hF hT (by simpa using hl) (lets_set hV hx (by omega) (ev_has hV hF hw hty)) hS1.tail
    · have hk11 : ¬ x.kind = 11 := by omega
      rw [genI, if_neg hk11] at hS
      rw [meanT, if_neg hk11]
      have hS1 := hS.right (gen_len _ _ _ _ _ _ _)
      have hv := (ev_has hV hF hw hty).2 ht2
      refine gen_says hF d (k := ⟨[], lt⟩) (m := some false) hw hty (fun _ => ht2) hV hS.left ⟨fun g => ?_, fun g => ?_⟩
      · have g : evT cl fl d x.c = 0 := g
        rw [g, if_neg (by decide)]
        exact genI_says hF hT hl hV hS1.tail
      · have g1 : evT cl fl d x.c = 1 := by
          rcases hv with g' | g'
          · exact absurd g' g
          · exact g'
        rw [if_pos g1]
        have hst := Says.stop (fl := fl) (st := []) (cl := cl) hS1.head (by unfold verdictOp; simp only []; split <;> simp)
        have e1 : decide (verdictOp x.kind = 17) = decide (x.kind = 12) := by unfold verdictOp; split <;> simp_all
        have e2 : ((x.wh : Int)).toNat = x.wh := by simp
        simp only [e1, e2] at hst
        exact hst
theorem genI_start {F : List In4} {jmp : Bool} {d : Nat} : ∀ {l : List ItT} {lt : List Nat} {p : Nat}, TyI d lt l → Sub F p (genI jmp d l lt p) → StartK F p ⟨[], lt⟩
  | [], lt, p, _, hS => ⟨_, hS.head, rfl⟩
  | x :: r, lt, p, hT, hS => by
    obtain ⟨hw, hty, hT⟩ := hT
    by_cases hk : x.kind = 11
    · rw [genI, if_pos hk] at hS
      exact gen_start d (k := ⟨[], lt⟩) (m := none) hw hS.left (by simp)
    · rw [genI, if_neg hk] at hS
      have hS1 := hS.right (gen_len _ _ _ _ _ _ _)
      exact gen_start d (k := ⟨[], lt⟩) (m := some false) hw hS.left (fun _ => ⟨_, hS1.head, rfl⟩)
theorem genI_cert {F : List In4} {jmp : Bool} {d dep cells : Nat} (hcl : cells ≤ 255) : ∀ {l : List ItT} {lt : List Nat} {p : Nat}, TyI d lt l → lt.length = cells → dpI jmp d l ≤ dep → Sub F p (genI jmp d l lt p) → AllCert F dep cells p (p + (genI jmp d l lt p).length)
  | [], lt, p, _, hl, _, hS => AllCert.one hS.head ⟨⟨by simp, by simp, fun _ => by simp [boundOp], fun g => by simp [sizeOp] at g⟩, hl, ⟨[], lt⟩, rfl, by simp, fun _ _ g => absurd rfl g, fun g => by simp at g⟩
  | x :: r, lt, p, hT, hl, hd, hS => by
    obtain ⟨hw, hty, hT⟩ := hT
    rw [dpI] at hd
    rcases hT with ⟨hk, hx, hT⟩ | ⟨hk, ht2, hx, hT⟩
    · rw [if_pos hk] at hd
      rw [genI, if_pos hk] at hS ⊢
      have hS1 := hS.right (gen_len _ _ _ _ _ _ _)
      have kR := genI_start hT hS1.tail
      have c0 := gen_cert hcl d (dep := dep) (k := ⟨[], lt⟩) (m := none) hw hl hty (by simp) (by simp) (by simp; omega) hS.left ⟨_, hS1.head, rfl⟩ (by simp)
      have c1 := AllCert.one (dep := dep) (cells := cells) hS1.head ⟨⟨by simp, by simp, fun _ => by simp [boundOp]; omega, fun g => by simp [sizeOp] at g⟩, hl, ⟨[], lt.set x.wh (tyTr lt d x.c)⟩, by simp [doesK], by simp, fun _ _ _ => kR, fun g => by simp at g⟩
      have c2 := genI_cert hcl hT (by simpa using hl) (dep := dep) (jmp := jmp) (by omega) hS1.tail
      exact ((c0.join c1).join c2).cast (by simp [gen_len]; omega)
    · have hk11 : ¬ x.kind = 11 := by omega
      rw [if_neg hk11] at hd
      rw [genI, if_neg hk11] at hS ⊢
      have hS1 := hS.right (gen_len _ _ _ _ _ _ _)
      have kR := genI_start hT hS1.tail
      have c0 := gen_cert hcl d (dep := dep) (k := ⟨[], lt⟩) (m := some false) hw hl hty (fun _ => ht2) (by simp) (by simp; omega) hS.left ⟨_, hS1.head, rfl⟩ (fun _ => ⟨by omega, kR⟩)
      have hvo : verdictOp x.kind = 17 ∨ verdictOp x.kind = 18 := by unfold verdictOp; split <;> simp
      have c1 := AllCert.one (dep := dep) (cells := cells) hS1.head ⟨⟨by simp; omega, by simp; omega, fun _ => by rcases hvo with e | e <;> simp [boundOp, e] <;> omega, fun g => by rcases hvo with e | e <;> simp [sizeOp, e] at g⟩, hl, ⟨[], lt⟩, by rcases hvo with e | e <;> simp [doesK, e], by simp, fun g1 g2 g3 => by simp at g1 g2 g3; omega, fun g => by simp at g; omega⟩
      have c2 := genI_cert hcl hT hl (dep := dep) (jmp := jmp) (by omega) hS1.tail
      exact ((c0.join c1).join c2).cast (by simp [gen_len]; omega)
/-- The instructions that were read are those that were made. -/
structure Lk (F : List In4) (ins : List Ins) : Prop where
  len : ins.length = F.length
  op : ∀ i x, F[i]? = some x → (ins.getD i noIns).op = x.op
  num : ∀ i x, F[i]? = some x → ¬ (x.op = 15 ∨ x.op = 16) → (ins.getD i noIns).n = x.n
  jump : ∀ i x, F[i]? = some x → (x.op = 15 ∨ x.op = 16) → jumpTo ins (ins.getD i noIns) = some x.to
theorem does_jump {op : Nat} (h : op = 15 ∨ op = 16) (a b : Nat) (k : Kn) : doesK op a k = doesK op b k := by rcases h with rfl | rfl <;> rfl
theorem step_jump {fl : List Int} {op : Nat} (h : op = 15 ∨ op = 16) (a b : Int) (p q : Nat) (st cl : List Int) : stepK fl ⟨op, a, p⟩ st cl = stepK fl ⟨op, b, q⟩ st cl := by rcases h with rfl | rfl <;> rfl
theorem meet_self : ∀ l : List Nat, meetC l l = l
  | [] => rfl
  | x :: r => by
    have := meet_self r
    simp only [meetC, List.zipWith_cons_cons, if_true] at *
    rw [this]
theorem bring_cert {K : Nat → Kn} {k : Kn} : ∀ {ts : List (Option Nat)} {come : List (Option Kn)}, (∀ o ∈ ts, ∃ j, o = some j ∧ K j = k) → (∀ j, come.getD j none = none ∨ come.getD j none = some (K j)) → ∃ come', bringK come k ts = some come' ∧ ∀ j, come'.getD j none = none ∨ come'.getD j none = some (K j)
  | [], come, _, h => ⟨come, rfl, h⟩
  | o :: ts, come, ht, h => by
    obtain ⟨j, rfl, hj⟩ := ht o (by simp)
    have hset : ∀ i, (come.set j (some k)).getD i none = none ∨ (come.set j (some k)).getD i none = some (K i) := fun i => by
      by_cases e : j = i
      · subst e
        by_cases hl : j < come.length
        · rw [getD_set_eq hl, hj]; exact .inr rfl
        · left; rw [List.getD_eq_getElem?_getD, List.getElem?_eq_none (by simp; omega)]; rfl
      · rw [getD_set_ne e]; exact h i
    have hrec := bring_cert (ts := ts) (come := come.set j (some k)) (fun o ho => ht o (by simp [ho])) hset
    rcases h j with e | e
    · simp only [bringK, e]; exact hrec
    · simp only [bringK, e]
      rw [hj, if_pos rfl, meet_self]
      exact hrec
theorem flow_cert {F : List In4} {ins : List Ins} {dep cells : Nat} (hL : Lk F ins) (hC : AllCert F dep cells 0 F.length) : ∀ (m i : Nat) (come : List (Option Kn)), F.length - i = m → (∀ j, come.getD j none = none ∨ come.getD j none = some ((F.getD j ⟨0, 0, 0, ⟨[], []⟩⟩).kn)) → flowK ins dep (ins.drop i) i come = true := by
  intro m
  induction m with
  | zero =>
    intro i come hm _
    rw [List.drop_of_length_le (by rw [hL.len]; omega)]; rfl
  | succ m ih =>
    intro i come hm hcome
    have hi : i < F.length := by omega
    have hii : i < ins.length := by rw [hL.len]; exact hi
    have hdrop : ins.drop i = ins.getD i noIns :: ins.drop (i + 1) := by
      rw [List.drop_eq_getElem_cons hii, List.getD_eq_getElem?_getD, List.getElem?_eq_getElem hii]; rfl
    rw [hdrop, flowK]
    have hx : F[i]? = some F[i] := List.getElem?_eq_getElem hi
    have hg : F.getD i ⟨0, 0, 0, ⟨[], []⟩⟩ = F[i] := by rw [List.getD_eq_getElem?_getD, hx]; rfl
    generalize F[i] = x at *
    have c := hC i x (Nat.zero_le _) hi hx
    rcases hcome i with e | e
    · rw [e]; exact ih (i + 1) come (by omega) hcome
    · rw [e, hg]
      simp only []
      obtain ⟨k', hd, hdp, hn, hj⟩ := c.doe
      have hop := hL.op i x hx
      have hd' : doesK (ins.getD i noIns).op (ins.getD i noIns).n.toNat x.kn = some k' := by
        rw [hop]
        by_cases g : x.op = 15 ∨ x.op = 16
        · rw [does_jump g _ x.n.toNat]; exact hd
        · rw [hL.num i x hx g]; exact hd
      rw [hd']
      simp only []
      rw [if_neg (by omega)]
      have hst : ∀ {p : Nat}, StartK F p k' → p < F.length ∧ (F.getD p ⟨0, 0, 0, ⟨[], []⟩⟩).kn = k' := fun {p} ⟨y, hy, hk⟩ => by
        refine ⟨(List.getElem?_eq_some_iff.1 hy).1, ?_⟩
        rw [List.getD_eq_getElem?_getD, hy]; exact hk
      have hlead : ∀ o ∈ leadsK ins i (ins.getD i noIns), ∃ j, o = some j ∧ (F.getD j ⟨0, 0, 0, ⟨[], []⟩⟩).kn = k' := by
        intro o ho
        have hnx : x.op ≠ 16 → x.op ≠ 17 → x.op ≠ 18 → ∃ j, (if i + 1 < ins.length then some (i + 1) else none) = some j ∧ (F.getD j ⟨0, 0, 0, ⟨[], []⟩⟩).kn = k' := fun g1 g2 g3 => by
          obtain ⟨q1, q2⟩ := hst (hn g1 g2 g3)
          rw [if_pos (by rw [hL.len]; exact q1)]
          exact ⟨_, rfl, q2⟩
        have hjm : x.op = 15 ∨ x.op = 16 → ∃ j, jumpTo ins (ins.getD i noIns) = some j ∧ (F.getD j ⟨0, 0, 0, ⟨[], []⟩⟩).kn = k' := fun g =>
          ⟨_, hL.jump i x hx g, (hst (hj g).2).2⟩
        unfold leadsK at ho
        rw [hop] at ho
        by_cases g15 : x.op = 15
        · rw [if_pos g15] at ho
          simp only [List.mem_cons, List.not_mem_nil, or_false] at ho
          rcases ho with rfl | rfl
          · exact hnx (by omega) (by omega) (by omega)
          · exact hjm (.inl g15)
        rw [if_neg g15] at ho
        by_cases g16 : x.op = 16
        · rw [if_pos g16] at ho
          simp only [List.mem_cons, List.not_mem_nil, or_false] at ho
          subst ho
          exact hjm (.inr g16)
        rw [if_neg g16] at ho
        by_cases g17 : x.op = 17 ∨ x.op = 18
        · rw [if_pos g17] at ho; simp at ho
        rw [if_neg g17] at ho
        simp only [List.mem_cons, List.not_mem_nil, or_false] at ho
        subst ho
        exact hnx g16 (by omega) (by omega)
      obtain ⟨come', hb, hc'⟩ := bring_cert (K := fun j => (F.getD j ⟨0, 0, 0, ⟨[], []⟩⟩).kn) hlead hcome
      rw [hb]
      exact ih (i + 1) come' (by omega) hc'
theorem step_j {fl : List Int} {x : Ins} {st cl st' cl' : List Int} (h : stepK fl x st cl = some (st', cl', true)) : x.op = 15 ∨ x.op = 16 := by
  by_cases g15 : x.op = 15
  · exact .inl g15
  by_cases g16 : x.op = 16
  · exact .inr g16
  exfalso
  have nt : ∀ {a b : List Int}, ¬ (some (a, b, false) = some (st', cl', true)) := fun h => by injection h with h; injection h with _ h; injection h with _ h; cases h
  unfold stepK at h
  split at h
  · exact nt h
  split at h
  · exact nt h
  split at h
  · cases st with
    | nil => cases h
    | cons v r => exact nt h
  split at h
  · exact nt h
  split at h
  · cases st with
    | nil => cases h
    | cons v r => exact nt h
  cases st with
  | nil => cases h
  | cons v r =>
    cases r with
    | nil => cases h
    | cons u r => exact nt h
/-- What the machine says of them. -/
theorem says_run {F : List In4} {ins : List Ins} {fl : List Int} (hL : Lk F ins) {i : Nat} {st cl : List Int} {r : Bool × Nat} (h : Says F fl i st cl r) : ∀ (f n : Nat) (res : Bool × Nat × Nat), runK ins fl f i st cl n = some res → res.1 = r.1 ∧ res.2.1 = r.2 := by
  refine h (fun i st cl r => ∀ (f n : Nat) (res : Bool × Nat × Nat), runK ins fl f i st cl n = some res → res.1 = r.1 ∧ res.2.1 = r.2) (fun i x st cl hx hop => ?_) (fun i x st cl st' cl' j r hx hop hs ih => ?_)
  · intro f n res hr
    cases f with
    | zero => simp [runK] at hr
    | succ f =>
      have hi : i < ins.length := by rw [hL.len]; exact (List.getElem?_eq_some_iff.1 hx).1
      rw [runK, if_pos hi, hL.op i x hx, if_pos hop, hL.num i x hx (by omega)] at hr
      cases hr
      exact ⟨rfl, rfl⟩
  · intro f n res hr
    cases f with
    | zero => simp [runK] at hr
    | succ f =>
      have hi : i < ins.length := by rw [hL.len]; exact (List.getElem?_eq_some_iff.1 hx).1
      rw [runK, if_pos hi, hL.op i x hx, if_neg hop] at hr
      have hst : stepK fl (ins.getD i noIns) st cl = some (st', cl', j) := by
        have e1 := hL.op i x hx
        by_cases g : x.op = 15 ∨ x.op = 16
        · rw [← hs, ← step_jump g (ins.getD i noIns).n x.n (ins.getD i noIns).pl 0, ← e1]
        · have e2 := hL.num i x hx g
          rw [← hs, ← e1, ← e2]; rfl
      rw [hst] at hr
      cases j with
      | false => exact ih f (n + 1) res hr
      | true =>
        simp only [] at hr
        have hj : x.op = 15 ∨ x.op = 16 := step_j hs
        rw [hL.jump i x hx hj] at hr
        exact ih f (n + 1) res hr
end Go.Proofs.YtfkdailfcmnjlaaGreatDoor

namespace Go.Proofs.YtfkdailfcmnjlaaGreatDoor
open Go Go.RowKit
set_option maxRecDepth 100000

/-- One byte of a number, so many from the last. -/
def byteN (n : Int) (left : Nat) : UInt8 := UInt8.ofNat ((n / (256 : Int) ^ left) % 256).toNat
/-- A number in so many bytes, the greatest first. -/
def numB (n : Int) : Nat → List UInt8
  | 0 => []
  | c + 1 => byteN n c :: numB n c
theorem numB_len (n : Int) : ∀ c, (numB n c).length = c
  | 0 => rfl
  | c + 1 => by rw [numB, List.length_cons, numB_len n c]
def encQ (q : Nat × Int) : List UInt8 := UInt8.ofNat q.1 :: numB q.2 (sizeOp q.1 - 1)
theorem encQ_len {q : Nat × Int} (h : sizeOp q.1 ≠ 0) : (encQ q).length = sizeOp q.1 := by
  unfold encQ; rw [List.length_cons, numB_len]; omega
def bytesQ (Q : List (Nat × Int)) : List UInt8 := Q.flatMap encQ
def insQ : List (Nat × Int) → Nat → List Ins
  | [], _ => []
  | q :: r, a => ⟨q.1, q.2, a⟩ :: insQ r (a + sizeOp q.1)
/-- What may be written. -/
structure FitQ (cells : Nat) (q : Nat × Int) : Prop where
  num : FitN cells q.1 q.2
  far : sizeOp q.1 = 3 → 0 ≤ q.2 ∧ q.2 < 65536
theorem byte_here {a b : List UInt8} {i : Nat} : byteAt (a ++ b) (a.length + i) = byteAt b i := by
  unfold byteAt; rw [List.getD_eq_getElem?_getD, List.getD_eq_getElem?_getD, List.getElem?_append_right (by omega)]; simp
theorem byteN_at (n : Int) (c : Nat) : (byteN n c).toNat = ((n / (256 : Int) ^ c) % 256).toNat := by
  unfold byteN
  have h1 : 0 ≤ (n / (256 : Int) ^ c) % 256 := Int.emod_nonneg _ (by decide)
  have h2 : (n / (256 : Int) ^ c) % 256 < 256 := Int.emod_lt_of_pos _ (by decide)
  rw [UInt8.toNat_ofNat']
  omega
theorem div_step (n : Int) (c : Nat) : n / (256 : Int) ^ (c + 1) = n / (256 : Int) ^ c / 256 := by
  rw [Int.pow_succ, Int.ediv_ediv_of_nonneg (by exact Int.le_of_lt (Int.pow_pos (by decide)))]
/-- The bytes of a number are the number. -/
theorem be_num (n : Int) (b : List UInt8) (a c : Nat) : ∀ m, m ≤ c → (∀ i, i < m → byteAt b (a + i) = (byteN n (c - 1 - i)).toNat) → (beVal b a m : Int) = (n / (256 : Int) ^ (c - m)) % (256 : Int) ^ m
  | 0, _, _ => by simp [beVal, Int.emod_one]
  | m + 1, hm, hb => by
    have ih := be_num n b a c m (by omega) (fun i hi => hb i (by omega))
    rw [beVal, hb m (by omega), byteN_at]
    have e1 : c - m = c - (m + 1) + 1 := by omega
    have e2 : c - 1 - m = c - (m + 1) := by omega
    rw [e1, div_step] at ih
    rw [e2]
    generalize n / (256 : Int) ^ (c - (m + 1)) = q at *
    have h1 : 0 ≤ q % 256 := Int.emod_nonneg _ (by decide)
    rw [Int.natCast_add, Int.natCast_mul, ih, Int.toNat_of_nonneg h1]
    have hp : (0 : Int) < 256 ^ m := Int.pow_pos (by decide)
    have hd : q = 256 * (q / 256) + q % 256 := (Int.mul_ediv_add_emod q 256).symm
    have hq := Int.mul_ediv_add_emod (q / 256) ((256 : Int) ^ m)
    generalize hx : (q / 256) % (256 : Int) ^ m = x at *
    generalize hy : (q / 256) / (256 : Int) ^ m = y at *
    have hxl : 0 ≤ x ∧ x < (256 : Int) ^ m := by rw [← hx]; exact ⟨Int.emod_nonneg _ (by omega), Int.emod_lt_of_pos _ hp⟩
    have hr : q % 256 < 256 := Int.emod_lt_of_pos _ (by decide)
    rw [Int.pow_succ]
    generalize (256 : Int) ^ m = P at *
    have hz : P * 256 * y = 256 * (P * y) := by rw [Int.mul_comm P 256, Int.mul_assoc]
    generalize q % 256 = r at *
    have e : q = (x * 256 + r) + P * 256 * y := by rw [hz]; omega
    rw [e, Int.add_mul_emod_self_left, Int.emod_eq_of_lt (by omega) (by omega)]
    rfl
theorem numB_at (n : Int) : ∀ (c i : Nat), i < c → byteAt (numB n c) i = (byteN n (c - 1 - i)).toNat
  | 0, i, h => by omega
  | c + 1, 0, _ => rfl
  | c + 1, i + 1, h => by
    have := numB_at n c i (by omega)
    have e : byteAt (numB n (c + 1)) (i + 1) = byteAt (numB n c) i := rfl
    rw [e, this]
    congr 2
    omega
/-- What is read where an instruction was written. -/
theorem read_one {cells : Nat} {q : Nat × Int} (h : FitQ cells q) (pre post : List UInt8) : insAt (pre ++ (encQ q ++ post)) pre.length = ⟨q.1, q.2, pre.length⟩ ∧ byteAt (pre ++ (encQ q ++ post)) pre.length = q.1 := by
  obtain ⟨op, n⟩ := q
  have ho := h.num.ops
  simp only [] at ho
  have e0 : byteAt (pre ++ (encQ (op, n) ++ post)) pre.length = op := by
    have := byte_here (a := pre) (b := encQ (op, n) ++ post) (i := 0)
    rw [Nat.add_zero] at this
    rw [this]
    show (UInt8.ofNat op).toNat = op
    rw [UInt8.toNat_ofNat']; omega
  refine ⟨?_, e0⟩
  unfold insAt
  rw [e0]
  congr 1
  have hb : ∀ i, i < sizeOp op - 1 → byteAt (pre ++ (encQ (op, n) ++ post)) (pre.length + 1 + i) = (byteN n (sizeOp op - 1 - 1 - i)).toNat := fun i hi => by
    rw [Nat.add_assoc, byte_here]
    have e : byteAt (encQ (op, n) ++ post) (1 + i) = byteAt (numB n (sizeOp op - 1) ++ post) i := by
      rw [Nat.add_comm]; rfl
    rw [e, byte_app (by rw [numB_len]; exact hi), numB_at _ _ _ hi]
  have hv := be_num n (pre ++ (encQ (op, n) ++ post)) (pre.length + 1) (sizeOp op - 1) (sizeOp op - 1) (Nat.le_refl _) hb
  rw [Nat.sub_self, Int.pow_zero, Int.ediv_one] at hv
  generalize pre ++ (encQ (op, n) ++ post) = B at *
  unfold numAt
  by_cases h1 : op = 1
  · subst h1
    rw [if_pos rfl]
    have e8 : sizeOp 1 - 1 = 8 := rfl
    rw [e8] at hv
    have hbig := h.num.big rfl
    unfold In64 at hbig
    simp only [] at hbig
    have e2 : (256 : Int) ^ 8 = 18446744073709551616 := by decide
    rw [e2] at hv
    unfold signed64
    split <;> omega
  · rw [if_neg h1, hv]
    have hs : sizeOp op = 2 ∨ sizeOp op = 1 ∨ sizeOp op = 3 := by
      unfold sizeOp; rw [if_neg h1]; (repeat' split) <;> omega
    rcases hs with hs | hs | hs
    · have := h.num.two hs
      simp only [] at this
      rw [hs]
      show n % (256 : Int) ^ 1 = n
      rw [Int.pow_one]
      exact Int.emod_eq_of_lt this.1 (by omega)
    · have := h.num.one hs
      simp only [] at this
      rw [hs, this]; rfl
    · have := h.far hs
      simp only [] at this
      rw [hs]
      show n % (256 : Int) ^ 2 = n
      have e2 : (256 : Int) ^ 2 = 65536 := by decide
      rw [e2]
      exact Int.emod_eq_of_lt this.1 this.2
theorem insQ_len : ∀ (Q : List (Nat × Int)) (a : Nat), (insQ Q a).length = Q.length
  | [], _ => rfl
  | q :: r, a => by rw [insQ, List.length_cons, insQ_len r, List.length_cons]
theorem bytesQ_cons (q : Nat × Int) (r : List (Nat × Int)) : bytesQ (q :: r) = encQ q ++ bytesQ r := rfl
/-- All instructions are read as they were written. -/
theorem dec_bytes {cells : Nat} {h3 : List UInt8} (h2 : byteAt h3 2 = cells) (hl : h3.length = 3) : ∀ (Q : List (Nat × Int)) (pre : List UInt8) (f : Nat), (∀ q ∈ Q, FitQ cells q) → Q.length < f → dec f (h3 ++ (pre ++ bytesQ Q)) (3 + pre.length) = some (insQ Q (3 + pre.length))
  | [], pre, f, _, hf => by
    obtain ⟨f, rfl⟩ : ∃ g, f = g + 1 := ⟨f - 1, by simp at hf; omega⟩
    rw [dec, if_pos (by simp [bytesQ, hl])]; rfl
  | q :: r, pre, f, hq, hf => by
    obtain ⟨f, rfl⟩ : ∃ g, f = g + 1 := ⟨f - 1, by simp at hf; omega⟩
    have hF := hq q (by simp)
    have ho := hF.num.ops
    have hs0 : sizeOp q.1 ≠ 0 := by
      have e : q.1 = 1 ∨ q.1 = 2 ∨ q.1 = 3 ∨ q.1 = 4 ∨ q.1 = 5 ∨ q.1 = 6 ∨ q.1 = 7 ∨ q.1 = 8 ∨ q.1 = 9 ∨ q.1 = 10 ∨ q.1 = 11 ∨ q.1 = 12 ∨ q.1 = 13 ∨ q.1 = 14 ∨ q.1 = 15 ∨ q.1 = 16 ∨ q.1 = 17 ∨ q.1 = 18 := by omega
      rcases e with e | e | e | e | e | e | e | e | e | e | e | e | e | e | e | e | e | e <;> rw [e] <;> decide
    have hel := encQ_len hs0
    obtain ⟨r1, r2⟩ := read_one hF (h3 ++ pre) (bytesQ r)
    rw [List.append_assoc, List.length_append, hl] at r1 r2
    rw [bytesQ_cons, dec, if_neg (by simp [hl, hel]; omega), r2, if_pos]
    · have ih := dec_bytes h2 hl r (pre ++ encQ q) f (fun q hq' => hq q (by simp [hq'])) (by simp at hf; omega)
      rw [List.append_assoc, List.length_append, hel, ← Nat.add_assoc] at ih
      rw [ih, r1]; rfl
    · refine ⟨hs0, by simp [hl, hel]; omega, fun hs => ?_⟩
      have := hF.num.two hs
      have e2 : byteAt (h3 ++ (pre ++ (encQ q ++ bytesQ r))) 2 = cells := by rw [byte_app (by omega)]; exact h2
      rw [e2]
      have hn : (insAt (h3 ++ (pre ++ (encQ q ++ bytesQ r))) (3 + pre.length)).n = q.2 := by rw [r1]
      unfold insAt numAt at hn
      rw [r2, if_neg (by intro e; rw [e] at hs; simp [sizeOp] at hs), hs] at hn
      simp only [] at hn
      have e3 : beVal (h3 ++ (pre ++ (encQ q ++ bytesQ r))) (3 + pre.length + 1) (2 - 1) = byteAt (h3 ++ (pre ++ (encQ q ++ bytesQ r))) (3 + pre.length + 1) := by simp [beVal]
      rw [e3] at hn
      rw [hn]
      exact this.2.1
theorem insQ_at : ∀ (Q : List (Nat × Int)) (a i : Nat) (q : Nat × Int), Q[i]? = some q → (insQ Q a).getD i noIns = ⟨q.1, q.2, a + ((Q.take i).map fun q => sizeOp q.1).sum⟩
  | [], _, _, _, h => by simp at h
  | q :: r, a, 0, q', h => by simp at h; subst h; rfl
  | q :: r, a, i + 1, q', h => by
    rw [insQ, List.getD_cons_succ, insQ_at r _ i q' (by simpa using h)]
    simp; omega
end Go.Proofs.YtfkdailfcmnjlaaGreatDoor
