/-
  The parts of a condition that the plain reader read are a tree: each part's tree is a run of parts that ends with it; own names stand in the order of the text. Of trees of parts: how many parts there are, how deep they are, and which own name is the first wrong one. Of lets: their place among the lets alone, and among all items; types as the program numbers them. Types of parts: as the program numbers them, by kinds of words. What a condition tells: plain Lean functions; a condition of a type tells a value of it. The document's fields of an event in a state. The program's reader: a word that stands alone. The program's reader: 'fork', 'join'; what the method values lead to. The program's reader: 'join'.
-/
import Derived.Test.YtfkdailfcmnjlaaGreatDoorPlain01
import Derived.Test.YtfkdailfcmnjlaaGreatDoorPlain02
import Derived.Test.YtfkdailfcmnjlaaGreatDoorPlain03
import Derived.Test.YtfkdailfcmnjlaaGreatDoorLays
import Derived.WalkKit
import Derived.Deep.QuietTactic
import Derived.BigQuiet
import Derived.WalkSpells
import GoSem.Op.String
import Derived.Deep.AppendLies
import Derived.Deep.RegionHeld3
import Derived.Deep.DrawnRows
import Derived.Deep.RegionHeldLaw
import Derived.Deep.RegionLaw
import Derived.Lib.ParseIntBCases
set_option linter.unusedVariables false
set_option linter.unusedSimpArgs false
namespace Go.Proofs.YtfkdailfcmnjlaaGreatDoor

/-- What a part may be. -/
def Shape (p : Pt) : Prop := (alone p.tok = true ∧ p.subs = []) ∨ (isW p.tok wNot = true ∧ p.subs.length = 1) ∨ (isW p.tok wIf = true ∧ p.subs.length = 3) ∨ (∃ n, isChain n ∧ joins n p.tok = true ∧ p.subs.length = 2)
/-- Trees one behind the other. -/
def Forest (T : Nat → Nat → Prop) : Nat → List Nat → Nat → Prop
  | lo, [], hi => lo = hi
  | lo, j :: js, hi => T lo j ∧ Forest T (j + 1) js hi
/-- The tree of a part is the run from a place up to it. -/
def TreeF : Nat → List Pt → Nat → Nat → Prop
  | 0, _, _, _ => False
  | f + 1, L, lo, i => i < L.length ∧ Shape (L.getD i noPt) ∧ Forest (TreeF f L) lo (L.getD i noPt).subs i

theorem Forest.mono {T T' : Nat → Nat → Prop} {js : List Nat} (hT : ∀ lo j, T lo j → T' lo j) : ∀ {lo hi}, Forest T lo js hi → Forest T' lo js hi := by
  induction js with
  | nil => intro lo hi h; exact h
  | cons j js ih => intro lo hi h; exact ⟨hT _ _ h.1, ih h.2⟩
theorem TreeF.up {f : Nat} : ∀ {L : List Pt} {lo i : Nat}, TreeF f L lo i → TreeF (f + 1) L lo i := by
  induction f with
  | zero => intro L lo i h; exact h.elim
  | succ f ih => intro L lo i h; exact ⟨h.1, h.2.1, h.2.2.mono fun lo j hj => ih hj⟩
theorem TreeF.upto {f g : Nat} (hg : f ≤ g) {L : List Pt} {lo i : Nat} (h : TreeF f L lo i) : TreeF g L lo i := by
  induction hg with
  | refl => exact h
  | step _ ih => exact ih.up
theorem TreeF.lt {f : Nat} {L : List Pt} {lo i : Nat} (h : TreeF f L lo i) : i < L.length := by
  cases f with
  | zero => exact h.elim
  | succ f => exact h.1
theorem TreeF.more {f : Nat} : ∀ {L : List Pt} {lo i : Nat}, TreeF f L lo i → ∀ new, TreeF f (L ++ new) lo i := by
  induction f with
  | zero => intro L lo i h; exact h.elim
  | succ f ih =>
    intro L lo i h new
    have e := getD_left (M := new) h.1
    refine ⟨by have := h.1; simp; omega, by rw [e]; exact h.2.1, by rw [e]; exact h.2.2.mono fun lo j hj => ih hj new⟩
def Tree (L : List Pt) (lo i : Nat) : Prop := ∃ f, TreeF f L lo i
theorem Tree.more {L : List Pt} {lo i : Nat} (h : Tree L lo i) {L' : List Pt} (hm : ∃ new, L' = L ++ new) : Tree L' lo i := by
  obtain ⟨f, h⟩ := h
  obtain ⟨new, rfl⟩ := hm
  exact ⟨f, h.more new⟩
theorem Tree.put {L : List Pt} {lo : Nat} {p : Pt} (hs : Shape p) {f : Nat} (hF : Forest (TreeF f L) lo p.subs L.length) : Tree (L ++ [p]) lo L.length :=
  ⟨f + 1, by simp, by rw [getD_last]; exact hs, by rw [getD_last]; exact hF.mono fun lo j hj => hj.more _⟩
theorem Tree.put1 {L : List Pt} {lo a : Nat} {p : Pt} (hs : Shape p) (hp : p.subs = [a]) (ha : Tree L lo a) (e : a + 1 = L.length) : Tree (L ++ [p]) lo L.length := by
  obtain ⟨f, ha⟩ := ha
  exact Tree.put (f := f) hs (by rw [hp]; exact ⟨ha, e⟩)
theorem Tree.put2 {L : List Pt} {lo a b : Nat} {p : Pt} (hs : Shape p) (hp : p.subs = [a, b]) (ha : Tree L lo a) (hb : Tree L (a + 1) b) (e : b + 1 = L.length) : Tree (L ++ [p]) lo L.length := by
  obtain ⟨f, ha⟩ := ha
  obtain ⟨g, hb⟩ := hb
  exact Tree.put (f := max f g) hs (by rw [hp]; exact ⟨ha.upto (by omega), hb.upto (by omega), e⟩)
theorem Tree.put3 {L : List Pt} {lo a b c : Nat} {p : Pt} (hs : Shape p) (hp : p.subs = [a, b, c]) (ha : Tree L lo a) (hb : Tree L (a + 1) b) (hc : Tree L (b + 1) c) (e : c + 1 = L.length) : Tree (L ++ [p]) lo L.length := by
  obtain ⟨f, ha⟩ := ha
  obtain ⟨g, hb⟩ := hb
  obtain ⟨k, hc⟩ := hc
  exact Tree.put (f := max f (max g k)) hs (by rw [hp]; exact ⟨ha.upto (by omega), hb.upto (by omega), hc.upto (by omega), e⟩)

/-- Words stand one behind the other. -/
def Sorted (ts : List Tok) : Prop := ∀ m n, m < n → n < ts.length → (tokAt ts m).pl < (tokAt ts n).pl
/-- The own names among the parts stand as in the text, ahead of a word. -/
def OwnUp (ts : List Tok) (L : List Pt) (i : Nat) : Prop :=
  (∀ k, k < L.length → (L.getD k noPt).tok.k = 111 → ∃ m, m < i ∧ m < ts.length ∧ (L.getD k noPt).tok = tokAt ts m) ∧
  (∀ k q, k < q → q < L.length → (L.getD k noPt).tok.k = 111 → (L.getD q noPt).tok.k = 111 → (L.getD k noPt).tok.pl < (L.getD q noPt).tok.pl) ∧
  (∀ k, k < L.length → (L.getD k noPt).tok ∈ ts)
theorem inside {ts : List Tok} {i : Nat} (h : tokAt ts i ≠ noTok) : i < ts.length ∧ tokAt ts i ∈ ts := by
  have hi : i < ts.length := by
    rcases Nat.lt_or_ge i ts.length with h1 | h1
    · exact h1
    · exact absurd (by unfold tokAt; rw [List.getD_eq_getElem?_getD, List.getElem?_eq_none (by omega)]; rfl) h
  exact ⟨hi, by unfold tokAt; rw [List.getD_eq_getElem?_getD, List.getElem?_eq_getElem hi]; exact List.getElem_mem hi⟩
theorem noTok_isW (x : List UInt8) : isW noTok x = false := rfl
theorem noTok_joins (n : Nat) : joins n noTok = false := by unfold joins noTok; simp
theorem OwnUp.mono {ts : List Tok} {L : List Pt} {i j : Nat} (h : OwnUp ts L i) (hj : i ≤ j) : OwnUp ts L j :=
  ⟨fun k hk ho => by obtain ⟨m, h1, h2⟩ := h.1 k hk ho; exact ⟨m, by omega, h2⟩, h.2⟩
theorem OwnUp.other {ts : List Tok} {L : List Pt} {i : Nat} (h : OwnUp ts L i) (p : Pt) (hp : p.tok.k ≠ 111) (hm : p.tok ∈ ts) : OwnUp ts (L ++ [p]) i := by
  have key : ∀ k, k < (L ++ [p]).length → ((L ++ [p]).getD k noPt).tok.k = 111 → k < L.length := fun k hk ho => by
    rcases Nat.lt_or_ge k L.length with h1 | h1
    · exact h1
    · have : k = L.length := by simp at hk; omega
      subst this; rw [getD_last] at ho; exact absurd ho hp
  refine ⟨fun k hk ho => ?_, fun k q hkq hq hk1 hq1 => ?_, fun k hk => ?_⟩
  · have h1 := key k hk ho
    rw [getD_left h1] at ho ⊢; exact h.1 k h1 ho
  · have h2 := key q hq hq1
    have h1 : k < L.length := by omega
    rw [getD_left h1] at hk1 ⊢; rw [getD_left h2] at hq1 ⊢
    exact h.2.1 k q hkq h2 hk1 hq1
  · rcases Nat.lt_or_ge k L.length with h1 | h1
    · rw [getD_left h1]; exact h.2.2 k h1
    · have : k = L.length := by simp at hk; omega
      subst this; rw [getD_last]; exact hm
theorem OwnUp.next {ts : List Tok} {L : List Pt} {i : Nat} (hS : Sorted ts) (h : OwnUp ts L i) (ha : alone (tokAt ts i) = true) : OwnUp ts (L ++ [⟨tokAt ts i, []⟩]) (i + 1) := by
  obtain ⟨hi, hmem⟩ := inside (ts := ts) (i := i) fun e => by rw [e] at ha; exact absurd ha (by decide)
  refine ⟨fun k hk ho => ?_, fun k q hkq hq hk1 hq1 => ?_, fun k hk => ?_⟩
  · rcases Nat.lt_or_ge k L.length with h1 | h1
    · rw [getD_left h1] at ho ⊢
      obtain ⟨m, a, b, c⟩ := h.1 k h1 ho
      exact ⟨m, by omega, b, c⟩
    · have : k = L.length := by simp at hk; omega
      subst this; rw [getD_last]; exact ⟨i, by omega, hi, rfl⟩
  · have h1 : k < L.length := by simp at hq; omega
    rw [getD_left h1] at hk1 ⊢
    rcases Nat.lt_or_ge q L.length with h2 | h2
    · rw [getD_left h2] at hq1 ⊢; exact h.2.1 k q hkq h2 hk1 hq1
    · have : q = L.length := by simp at hq; omega
      subst this; rw [getD_last] at hq1 ⊢
      obtain ⟨m, a, b, c⟩ := h.1 k h1 hk1
      rw [c]; exact hS m i a hi
  · rcases Nat.lt_or_ge k L.length with h1 | h1
    · rw [getD_left h1]; exact h.2.2 k h1
    · have : k = L.length := by simp at hk; omega
      subst this; rw [getD_last]; exact hmem
theorem isW_notown {t : Tok} {x : List UInt8} (h : isW t x = true) : t.k ≠ 111 := by
  unfold isW at h; simp at h; omega
theorem isW_in {ts : List Tok} {i : Nat} {x : List UInt8} (h : isW (tokAt ts i) x = true) : tokAt ts i ∈ ts := (inside fun e => by rw [e] at h; exact absurd h (by rw [noTok_isW]; simp)).2
theorem joins_in {ts : List Tok} {i n : Nat} (h : joins n (tokAt ts i) = true) : tokAt ts i ∈ ts := (inside fun e => by rw [e] at h; exact absurd h (by rw [noTok_joins]; simp)).2
theorem joins_notown {t : Tok} {n : Nat} (h : joins n t = true) : t.k ≠ 111 := by
  unfold joins at h; simp at h; omega

theorem P_new {g tag : Nat} {ts : List Tok} {i x : Nat} {L : List Pt} {r : Rd} (h : P g tag ts i L x = some r) (ok : r.ok = true) (ht : tag ≤ 6) : ∃ new, r.L = L ++ new :=
  (P_kept g tag ts i L x L.length r h ok (Nat.le_refl _) (fun k h1 h2 => by omega) (by omega) (.inl ht)).more

theorem P_tree {ts : List Tok} (hS : Sorted ts) (f : Nat) : ∀ (tag i : Nat) (L : List Pt) (x lo : Nat) (r : Rd), P f tag ts i L x = some r → r.ok = true → (tag ≤ 6 ∨ tag = 10 ∨ tag = 11 ∨ tag = 13 ∨ tag = 14) → OwnUp ts L i → (tag < 10 → lo = L.length) → (10 ≤ tag → x + 1 = L.length ∧ Tree L lo x) →
    r.top + 1 = r.L.length ∧ Tree r.L lo r.top ∧ OwnUp ts r.L r.i := by
  induction f with
  | zero => intro tag i L x lo r h; rw [P] at h; simp at h
  | succ f ih =>
    intro tag i L x lo r h ok ht hO hlo hx
    by_cases h6 : tag = 6
    · subst h6
      have hlo := hlo (by omega)
      by_cases hw : isW (tokAt ts i) wIf = true
      · obtain ⟨ra, rb, rc, hPa, hNb, hNc, hrc, hri, hrp⟩ := if_split h hw
        rw [hrc] at ok
        obtain ⟨oka, okb, rfl⟩ := hrp ok
        have fa := (P_fwd f 6 ts (i + 1) L 0 ra hPa oka (by omega)).1
        obtain ⟨a1, a2, a3⟩ := ih 6 (i + 1) L 0 lo ra hPa oka (by omega) (hO.mono (by omega)) (fun _ => hlo) (by omega)
        unfold Nx at hNb hNc
        have hwb : isW (tokAt ts ra.i) wThen = true := by
          cases e : isW (tokAt ts ra.i) wThen with
          | true => rfl
          | false => rw [if_neg (by simp [e])] at hNb; rw [hNb.1] at okb; simp at okb
        have hwc : isW (tokAt ts rb.i) wElse = true := by
          cases e : isW (tokAt ts rb.i) wElse with
          | true => rfl
          | false => rw [if_neg (by simp [e])] at hNc; rw [hNc.1] at ok; simp at ok
        rw [if_pos ⟨oka, hwb⟩] at hNb
        rw [if_pos ⟨okb, hwc⟩] at hNc
        have hmb := P_new hNb okb (by omega)
        have hmc := P_new hNc ok (by omega)
        obtain ⟨b1, b2, b3⟩ := ih 6 (ra.i + 1) ra.L 0 ra.L.length rb hNb okb (by omega) (a3.mono (by omega)) (fun _ => rfl) (by omega)
        obtain ⟨c1, c2, c3⟩ := ih 6 (rb.i + 1) rb.L 0 rb.L.length rc hNc ok (by omega) (b3.mono (by omega)) (fun _ => rfl) (by omega)
        refine ⟨by simp [put], ?_, ?_⟩
        · rw [← a1] at b2; rw [← b1] at c2
          exact Tree.put3 (.inr (.inr (.inl ⟨hw, rfl⟩))) rfl ((a2.more hmb).more hmc) (b2.more hmc) c2 c1
        · exact c3.other _ (isW_notown hw) (isW_in hw)
      · exact ih 0 i L 0 lo r (if_not h hw) ok (by omega) hO (fun _ => hlo) (by omega)
    · by_cases h5 : tag = 5
      · subst h5
        have hlo := hlo (by omega)
        by_cases hw : isW (tokAt ts i) [40] = true
        · obtain ⟨ra, hPa, hr⟩ := one_open h hw
          rcases hr with ⟨oka, hwa, rfl⟩ | ⟨_, hr, _⟩
          · obtain ⟨a1, a2, a3⟩ := ih 6 (i + 1) L 0 lo ra hPa oka (by omega) (hO.mono (by omega)) (fun _ => hlo) (by omega)
            exact ⟨a1, a2, a3.mono (by simp)⟩
          · rw [hr] at ok; simp at ok
        · rcases one_alone h hw with ⟨ha, rfl⟩ | ⟨_, rfl⟩
          · exact ⟨by simp, by rw [hlo]; exact Tree.put (f := 0) (.inl ⟨ha, rfl⟩) rfl, hO.next hS ha⟩
          · simp at ok
      · by_cases h2 : tag = 2
        · subst h2
          have hlo := hlo (by omega)
          by_cases hw : isW (tokAt ts i) wNot = true
          · obtain ⟨ra, hPa, hra, hri, hrp⟩ := not_yes h hw
            rw [hra] at ok
            have hrp := hrp ok
            subst hrp
            obtain ⟨a1, a2, a3⟩ := ih 2 (i + 1) L 0 lo ra hPa ok (by omega) (hO.mono (by omega)) (fun _ => hlo) (by omega)
            exact ⟨by simp [put], Tree.put1 (.inr (.inl ⟨hw, rfl⟩)) rfl a2 a1, a3.other _ (isW_notown hw) (isW_in hw)⟩
          · exact ih 3 i L 0 lo r (not_no h hw) ok (by omega) hO (fun _ => hlo) (by omega)
        · by_cases h10 : tag < 10
          · have hn : isChain tag := by unfold isChain; omega
            have hlo := hlo h10
            obtain ⟨ra, hPa, hr⟩ := chain_split hn h
            rcases hr with ⟨oka, hr⟩ | ⟨no, rfl⟩
            · unfold isChain at hn
              obtain ⟨a1, a2, a3⟩ := ih (tag + 1) i L 0 lo ra hPa oka (by omega) hO (fun _ => hlo) (by omega)
              exact ih (10 + tag) ra.i ra.L ra.top lo r hr ok (by omega) a3 (by omega) (fun _ => ⟨a1, a2⟩)
            · rw [no] at ok; simp at ok
          · obtain ⟨n, rfl⟩ : ∃ n, tag = 10 + n := ⟨tag - 10, by omega⟩
            have hn : isChain n := by unfold isChain; omega
            have hn' := hn
            unfold isChain at hn'
            obtain ⟨x1, x2⟩ := hx (by omega)
            cases hj : joins n (tokAt ts i) with
            | false =>
              have := loop_no hn h hj
              subst this
              exact ⟨x1, x2, hO⟩
            | true =>
              obtain ⟨rb, hPb, hr⟩ := loop_yes hn h hj
              rcases hr with ⟨no, rfl⟩ | ⟨okb, hr⟩
              · rw [no] at ok; simp at ok
              · have hmb := P_new hPb okb (by omega)
                obtain ⟨b1, b2, b3⟩ := ih (n + 1) (i + 1) L 0 L.length rb hPb okb (by omega) (hO.mono (by omega)) (fun _ => rfl) (by omega)
                rw [← x1] at b2
                have hT : Tree (rb.L ++ [⟨tokAt ts i, [x, rb.top]⟩]) lo rb.L.length := Tree.put2 (.inr (.inr (.inr ⟨n, hn, hj, rfl⟩))) rfl (x2.more hmb) b2 b1
                have hO2 : OwnUp ts (rb.L ++ [⟨tokAt ts i, [x, rb.top]⟩]) rb.i := b3.other _ (joins_notown hj) (joins_in hj)
                rcases hr with ⟨h3, rfl⟩ | ⟨h3, hr⟩
                · exact ⟨by simp [put], hT, hO2⟩
                · exact ih (10 + n) rb.i _ _ lo r hr ok (by omega) hO2 (by omega) (fun _ => ⟨by simp, hT⟩)
end Go.Proofs.YtfkdailfcmnjlaaGreatDoor

namespace Go.Proofs.YtfkdailfcmnjlaaGreatDoor

def sumOf (F : Nat → Nat) : List Nat → Nat
  | [] => 0
  | j :: js => F j + sumOf F js
/-- How many parts a tree has. -/
def cnt : Nat → List Pt → Nat → Nat
  | 0, _, _ => 1
  | f + 1, L, i => 1 + sumOf (cnt f L) (L.getD i noPt).subs

theorem forest_le {T : Nat → Nat → Prop} (hT : ∀ lo j, T lo j → lo ≤ j) (js : List Nat) : ∀ {lo hi}, Forest T lo js hi → lo ≤ hi := by
  induction js with
  | nil => intro lo hi h; exact Nat.le_of_eq h
  | cons j js ih => intro lo hi h; have := hT _ _ h.1; have := ih h.2; omega
theorem TreeF.le {f : Nat} : ∀ {L : List Pt} {lo i : Nat}, TreeF f L lo i → lo ≤ i := by
  induction f with
  | zero => intro L lo i h; exact h.elim
  | succ f ih => intro L lo i h; exact forest_le (fun lo j hj => ih hj) _ h.2.2
theorem forest_cnt {T : Nat → Nat → Prop} {F : Nat → Nat} (hT : ∀ lo j, T lo j → lo ≤ j ∧ F j = j + 1 - lo) (js : List Nat) : ∀ {lo hi}, Forest T lo js hi → sumOf F js = hi - lo := by
  induction js with
  | nil => intro lo hi h; have : lo = hi := h; subst this; simp [sumOf]
  | cons j js ih =>
    intro lo hi h
    have h1 := hT _ _ h.1
    have h2 := ih h.2
    have h3 := forest_le (fun lo j hj => (hT lo j hj).1) js h.2
    rw [sumOf, h2, h1.2]; omega
theorem TreeF.cnt {f : Nat} : ∀ {L : List Pt} {lo i : Nat}, TreeF f L lo i → cnt f L i = i + 1 - lo := by
  induction f with
  | zero => intro L lo i h; exact h.elim
  | succ f ih =>
    intro L lo i h
    have h0 := TreeF.le h
    have := forest_cnt (T := TreeF f L) (F := Go.Proofs.YtfkdailfcmnjlaaGreatDoor.cnt f L) (fun lo j hj => ⟨hj.le, ih hj⟩) _ h.2.2
    rw [Go.Proofs.YtfkdailfcmnjlaaGreatDoor.cnt, this]; omega
theorem foldMax_congr {F G : Nat → Nat} {l : List Nat} (h : ∀ j ∈ l, F j = G j) : foldMax F l = foldMax G l := by
  have : ∀ (l : List Nat) (m : Nat), (∀ j ∈ l, F j = G j) → l.foldl (fun m j => max m (F j)) m = l.foldl (fun m j => max m (G j)) m := by
    intro l
    induction l with
    | nil => intro m _; rfl
    | cons x l ih => intro m hl; rw [List.foldl_cons, List.foldl_cons, hl x (by simp)]; exact ih _ fun j hj => hl j (by simp [hj])
  exact this l 0 h
theorem forest_mem {T : Nat → Nat → Prop} (js : List Nat) : ∀ {lo hi}, Forest T lo js hi → ∀ j ∈ js, ∃ lo', T lo' j := by
  induction js with
  | nil => intro lo hi _ j hj; simp at hj
  | cons x js ih =>
    intro lo hi h j hj
    simp at hj
    rcases hj with rfl | hj
    · exact ⟨lo, h.1⟩
    · exact ih h.2 j hj
/-- The depth does not hang on the bound, if the bound is above the tree's. -/
theorem TreeF.dep {f : Nat} : ∀ {g : Nat} {L : List Pt} {lo i : Nat}, TreeF f L lo i → f ≤ g → dep g L i = dep f L i := by
  induction f with
  | zero => intro g L lo i h; exact h.elim
  | succ f ih =>
    intro g L lo i h hg
    obtain ⟨g, rfl⟩ : ∃ g', g = g' + 1 := ⟨g - 1, by omega⟩
    rw [Go.Proofs.YtfkdailfcmnjlaaGreatDoor.dep, Go.Proofs.YtfkdailfcmnjlaaGreatDoor.dep]
    rw [foldMax_congr fun j hj => ?_]
    obtain ⟨lo', hT⟩ := forest_mem _ h.2.2 j hj
    exact ih hT (by omega)
/-- A tree's bound can be its place. -/
theorem forest_down {T T' : Nat → Nat → Prop} (js : List Nat) : ∀ {lo hi}, (∀ lo j, T lo j → lo ≤ j) → (∀ lo j, j < hi → T lo j → T' lo j) → Forest T lo js hi → Forest T' lo js hi := by
  induction js with
  | nil => intro lo hi _ _ h; exact h
  | cons j js ih =>
    intro lo hi hl hT h
    have := forest_le hl js h.2
    exact ⟨hT _ _ (by omega) h.1, ih hl hT h.2⟩
theorem TreeF.fit {f : Nat} : ∀ {L : List Pt} {lo i : Nat}, TreeF f L lo i → TreeF (i + 1) L lo i := by
  induction f with
  | zero => intro L lo i h; exact h.elim
  | succ f ih =>
    intro L lo i h
    exact ⟨h.1, h.2.1, forest_down _ (fun lo j hj => hj.le) (fun lo j hj hT => (ih hT).upto (by omega)) h.2.2⟩
theorem Tree.fit {L : List Pt} {lo i : Nat} (h : Tree L lo i) : TreeF (i + 1) L lo i := by
  obtain ⟨f, h⟩ := h; exact h.fit

/-- The first answer of some. -/
def firstOf (F : Nat → Option Nat) : List Nat → Option Nat
  | [] => none
  | j :: js => match F j with
    | some p => some p
    | none => firstOf F js
/-- The place of the first wrong own name of a tree, from left to right. -/
def resF (bad : Tok → Bool) : Nat → List Pt → Nat → Option Nat
  | 0, _, _ => none
  | f + 1, L, i => if (L.getD i noPt).tok.k = 111 then (if bad (L.getD i noPt).tok then some (L.getD i noPt).tok.pl else none) else firstOf (resF bad f L) (L.getD i noPt).subs

theorem wrongAt_split (xs : List Itm) (L : List Pt) (n a : Nat) : ∀ (b k : Nat) (o : Option Nat), wrongAt xs L n (a + b) k o = wrongAt xs L n b (k + a) (wrongAt xs L n a k o) := by
  induction a with
  | zero => intro b k o; simp [wrongAt]
  | succ a ih =>
    intro b k o
    rw [show a + 1 + b = (a + b) + 1 from by omega, wrongAt, wrongAt, ih, show k + 1 + a = k + (a + 1) from by omega]
theorem wrongAt_stay (xs : List Itm) (L : List Pt) (n p c : Nat) : ∀ (k : Nat), (∀ q, k ≤ q → q < k + c → (L.getD q noPt).tok.k = 111 → p ≤ (L.getD q noPt).tok.pl) → wrongAt xs L n c k (some p) = some p := by
  induction c with
  | zero => intro k _; rfl
  | succ c ih =>
    intro k h
    rw [wrongAt]
    have e : wrongStep xs n (L.getD k noPt).tok (some p) = some p := by
      unfold wrongStep
      split
      · rename_i hc
        have := h k (Nat.le_refl _) (by omega) hc.1
        simp only [better]; rw [if_neg (by omega)]
      · rfl
    rw [e]
    exact ih (k + 1) fun q h1 h2 => h q (by omega) (by omega)

def badOf (xs : List Itm) (n : Nat) (t : Tok) : Bool := decide (letIx xs t.text n < 0)

theorem forest_res {xs : List Itm} {L : List Pt} {n : Nat} {T : Nat → Nat → Prop} {F : Nat → Option Nat}
    (hup : ∀ k q, k < q → q < L.length → (L.getD k noPt).tok.k = 111 → (L.getD q noPt).tok.k = 111 → (L.getD k noPt).tok.pl < (L.getD q noPt).tok.pl)
    (hT : ∀ lo j, T lo j → lo ≤ j ∧ wrongAt xs L n (j + 1 - lo) lo none = F j ∧ ∀ p, F j = some p → ∃ q, lo ≤ q ∧ q ≤ j ∧ (L.getD q noPt).tok.k = 111 ∧ (L.getD q noPt).tok.pl = p)
    (js : List Nat) : ∀ {lo hi}, hi ≤ L.length → Forest T lo js hi → wrongAt xs L n (hi - lo) lo none = firstOf F js ∧ ∀ p, firstOf F js = some p → ∃ q, lo ≤ q ∧ q < hi ∧ (L.getD q noPt).tok.k = 111 ∧ (L.getD q noPt).tok.pl = p := by
  induction js with
  | nil => intro lo hi _ h; have : lo = hi := h; subst this; simp [firstOf, wrongAt]
  | cons j js ih =>
    intro lo hi hh h
    obtain ⟨h1, h2, h3⟩ := hT _ _ h.1
    have h4 := forest_le (fun lo j hj => (hT lo j hj).1) js h.2
    obtain ⟨i1, i2⟩ := ih hh h.2
    rw [show hi - lo = (j + 1 - lo) + (hi - (j + 1)) from by omega, wrongAt_split, h2, show lo + (j + 1 - lo) = j + 1 from by omega, firstOf]
    cases hF : F j with
    | none =>
      refine ⟨i1, fun p hp => ?_⟩
      obtain ⟨q, a, b, c⟩ := i2 p hp
      exact ⟨q, by omega, b, c⟩
    | some p =>
      obtain ⟨q, a, b, c, d⟩ := h3 p hF
      refine ⟨wrongAt_stay xs L n p _ _ fun r hr1 hr2 ho => ?_, fun p' hp => ?_⟩
      · have := hup q r (by omega) (by omega) c ho
        omega
      · simp at hp; subst hp; exact ⟨q, a, by omega, c, d⟩

theorem shape_leaf {p : Pt} (h : Shape p) (ho : p.tok.k = 111) : p.subs = [] := by
  rcases h with ⟨_, h⟩ | ⟨h, _⟩ | ⟨h, _⟩ | ⟨n, _, h, _⟩
  · exact h
  · exact absurd ho (isW_notown h)
  · exact absurd ho (isW_notown h)
  · exact absurd ho (joins_notown h)

theorem TreeF.res {xs : List Itm} {n : Nat} {f : Nat} : ∀ {L : List Pt} {lo i : Nat}, (∀ k q, k < q → q < L.length → (L.getD k noPt).tok.k = 111 → (L.getD q noPt).tok.k = 111 → (L.getD k noPt).tok.pl < (L.getD q noPt).tok.pl) → TreeF f L lo i →
    wrongAt xs L n (i + 1 - lo) lo none = resF (badOf xs n) f L i ∧ ∀ p, resF (badOf xs n) f L i = some p → ∃ q, lo ≤ q ∧ q ≤ i ∧ (L.getD q noPt).tok.k = 111 ∧ (L.getD q noPt).tok.pl = p := by
  induction f with
  | zero => intro L lo i _ h; exact h.elim
  | succ f ih =>
    intro L lo i hup h
    have hle := h.le
    obtain ⟨g1, g2⟩ := forest_res (xs := xs) (n := n) hup (T := TreeF f L) (F := resF (badOf xs n) f L) (fun lo j hj => ⟨hj.le, ih hup hj⟩) _ (by have := h.1; omega) h.2.2
    rw [show i + 1 - lo = (i - lo) + 1 from by omega, wrongAt_split, g1, show lo + (i - lo) = i from by omega, wrongAt, wrongAt, resF]
    by_cases ho : (L.getD i noPt).tok.k = 111
    · rw [if_pos ho, shape_leaf h.2.1 ho, firstOf]
      unfold wrongStep badOf
      by_cases hb : letIx xs (L.getD i noPt).tok.text n < 0
      · rw [if_pos ⟨ho, hb⟩, decide_eq_true hb, if_pos rfl]
        refine ⟨rfl, fun p hp => ?_⟩
        simp at hp; exact ⟨i, hle, Nat.le_refl _, ho, hp⟩
      · rw [if_neg (fun e => hb e.2), decide_eq_false hb]
        exact ⟨rfl, fun p hp => by simp at hp⟩
    · rw [if_neg ho]
      unfold wrongStep
      rw [if_neg (fun e => ho e.1)]
      refine ⟨rfl, fun p hp => ?_⟩
      obtain ⟨q, a, b, c⟩ := g2 p hp
      exact ⟨q, a, by omega, c⟩
end Go.Proofs.YtfkdailfcmnjlaaGreatDoor

namespace Go.Proofs.YtfkdailfcmnjlaaGreatDoor

/-- The names that lets give. -/
def giv : List Itm → List (List UInt8)
  | [] => []
  | x :: r => if x.name = [] then giv r else x.name :: giv r
theorem giv_snoc (xs : List Itm) (x : Itm) : giv (xs ++ [x]) = if x.name = [] then giv xs else giv xs ++ [x.name] := by
  induction xs with
  | nil => simp [giv]
  | cons y r ih =>
    simp only [List.cons_append, giv, ih]
    split <;> split <;> simp
theorem giv_len (xs : List Itm) : (giv xs).length ≤ xs.length := by
  induction xs with
  | nil => simp [giv]
  | cons y r ih => rw [giv]; split <;> simp <;> omega
theorem giv_ix (s : List UInt8) (hs : s ≠ []) (xs : List Itm) : ∀ k, idx (giv (xs.take k)) s < 0 ↔ letIx xs s k < 0 := by
  induction xs with
  | nil => intro k; simp [giv, idx, letIx]
  | cons x r ih =>
    intro k
    cases k with
    | zero => simp [giv, idx, letIx]
    | succ k =>
      have := ih k
      rw [List.take_succ_cons, giv, letIx]
      by_cases hx : x.name = []
      · rw [if_pos hx, hx, if_neg (by simpa using hs)]
        by_cases h0 : letIx r s k < 0
        · rw [if_pos h0]; exact ⟨fun _ => by decide, fun _ => this.2 h0⟩
        · rw [if_neg h0]; constructor
          · intro h; exact absurd (this.1 h) h0
          · intro h; omega
      · rw [if_neg hx, idx]
        by_cases he : (x.name == s) = true
        · rw [if_pos he, if_pos he]
        · rw [if_neg he, if_neg he]
          by_cases h0 : letIx r s k < 0
          · rw [if_pos h0, if_pos (this.2 h0)]
          · rw [if_neg h0, if_neg (fun h => h0 (this.1 h))]
            have h1 : ¬ idx (giv (r.take k)) s < 0 := fun h => h0 (this.1 h)
            omega
/-- A type as the program numbers it. -/
def tcode (c : UInt8) : Nat := if c.toNat = 110 then 1 else if c.toNat = 116 then 2 else if c.toNat = 109 then 3 else 0
/-- The types of the lets among items. -/
def letTys : List Itm → List UInt8 → List Nat
  | x :: r, t :: ts => if x.name = [] then letTys r ts else tcode t :: letTys r ts
  | _, _ => []
theorem letTys_snoc (xs : List Itm) (x : Itm) (t : UInt8) : ∀ (its : List UInt8), its.length = xs.length → letTys (xs ++ [x]) (its ++ [t]) = if x.name = [] then letTys xs its else letTys xs its ++ [tcode t] := by
  induction xs with
  | nil => intro its h; obtain rfl : its = [] := by simpa using h
           simp [letTys]
  | cons y r ih =>
    intro its h
    cases its with
    | nil => simp at h
    | cons u its =>
      have := ih its (by simpa using h)
      simp only [List.cons_append, letTys, this]
      split <;> split <;> simp
theorem letTys_len (xs : List Itm) : ∀ (its : List UInt8), its.length = xs.length → (letTys xs its).length = (giv xs).length := by
  induction xs with
  | nil => intro its h; simp [letTys, giv]
  | cons y r ih =>
    intro its h
    cases its with
    | nil => simp at h
    | cons u its =>
      have := ih its (by simpa using h)
      rw [letTys, giv]; split <;> simp [this]
theorem letTys_at (s : List UInt8) (hs : s ≠ []) (xs : List Itm) : ∀ (its : List UInt8), its.length ≤ xs.length → 0 ≤ letIx xs s its.length → (letTys (xs.take its.length) its).getD (idx (giv (xs.take its.length)) s).toNat 0 = tcode (its.getD (letIx xs s its.length).toNat 0) := by
  induction xs with
  | nil => intro its h h0; simp [letIx] at h0
  | cons x r ih =>
    intro its h h0
    cases its with
    | nil => simp [letIx] at h0
    | cons u its =>
      rw [List.length_cons] at *
      rw [letIx] at h0 ⊢
      rw [List.take_succ_cons, letTys, giv]
      by_cases hx : x.name = []
      · have he : ¬ (x.name == s) = true := by rw [hx]; simpa using hs
        rw [if_neg he] at h0 ⊢
        rw [if_pos hx, if_pos hx]
        by_cases h1 : letIx r s its.length < 0
        · rw [if_pos h1] at h0; omega
        · rw [if_neg h1]
          rw [ih its (by simpa using h) (by omega), show (letIx r s its.length + 1).toNat = (letIx r s its.length).toNat + 1 from by omega, List.getD_cons_succ]
      · rw [if_neg hx, if_neg hx, idx]
        by_cases he : (x.name == s) = true
        · rw [if_pos he, if_pos he]; rfl
        · rw [if_neg he] at h0 ⊢
          rw [if_neg he]
          by_cases h1 : letIx r s its.length < 0
          · rw [if_pos h1] at h0; omega
          · have h2 : ¬ idx (giv (r.take its.length)) s < 0 := fun h => h1 ((giv_ix s hs r _).1 h)
            rw [if_neg h1, if_neg h2, show (letIx r s its.length + 1).toNat = (letIx r s its.length).toNat + 1 from by omega, show (idx (giv (r.take its.length)) s + 1).toNat = (idx (giv (r.take its.length)) s).toNat + 1 from by omega, List.getD_cons_succ, List.getD_cons_succ]
            exact ih its (by simpa using h) (by omega)
/-- The place among the names does not turn as more are given. -/
theorem idx_append {l m : List (List UInt8)} {s : List UInt8} (h : 0 ≤ idx l s) : idx (l ++ m) s = idx l s := by
  induction l with
  | nil => simp [idx] at h
  | cons x r ih =>
    rw [List.cons_append, idx, idx] at *
    by_cases he : (x == s) = true
    · rw [if_pos he, if_pos he]
    · rw [if_neg he] at h ⊢
      rw [if_neg he]
      by_cases h1 : idx r s < 0
      · rw [if_pos h1] at h; omega
      · rw [ih (by omega)]
theorem giv_more (xs : List Itm) (k : Nat) : ∃ m, giv xs = giv (xs.take k) ++ m := by
  induction xs generalizing k with
  | nil => exact ⟨[], by simp [giv]⟩
  | cons x r ih =>
    cases k with
    | zero => exact ⟨_, by simp [giv]; rfl⟩
    | succ k =>
      obtain ⟨m, hm⟩ := ih k
      refine ⟨m, ?_⟩
      rw [List.take_succ_cons, giv, giv, hm]
      split <;> simp
end Go.Proofs.YtfkdailfcmnjlaaGreatDoor

namespace Go.Proofs.YtfkdailfcmnjlaaGreatDoor
open Go Go.RowKit
set_option maxRecDepth 100000

/-- The type of a word that stands alone, by its kind. -/
def wordK (k : Nat) : Nat := if k = 1 ∨ (27 ≤ k ∧ k ≤ 30) then 1 else if k = 20 ∨ k = 21 ∨ k = 34 ∨ k = 35 then 2 else if (22 ≤ k ∧ k ≤ 26) ∨ (31 ≤ k ∧ k ≤ 33) then 3 else 0
def ifAllK (us : List Nat) (want give : Nat) : Nat := if us.all (fun u => u == want) then give else 0
/-- The type over parts of types. -/
def overK (k : Nat) (us : List Nat) : Nat :=
  if k = 6 ∨ k = 7 then ifAllK us 1 1 else if k = 10 ∨ k = 9 then ifAllK us 1 2 else if k = 8 then ifAllK us (us.getD 0 0) 2
  else if k = 17 ∨ k = 18 ∨ k = 19 then ifAllK us 2 2
  else if k = 14 then (if us.getD 0 0 = 2 then ifAllK (us.drop 1) (us.getD 1 0) (us.getD 1 0) else 0) else 0

abbrev isTy (c : UInt8) : Prop := c = 110 ∨ c = 116 ∨ c = 109
theorem isTy_mem {c : UInt8} (h : isTy c) : c ∈ ([110, 116, 109] : List UInt8) := by
  rcases h with rfl | rfl | rfl <;> decide
theorem tcode_zero {c : UInt8} (h : c = 0 ∨ isTy c) : tcode c = 0 ↔ c = 0 := by
  rcases h with rfl | rfl | rfl | rfl <;> decide
/-- The type by the text alone. -/
def tyT (x s : List UInt8) : UInt8 := UInt8.ofNat (tyCase [] [] ⟨107, x, 0⟩ s)
theorem tyT_eq (xs : List Itm) (its : List UInt8) {t : Tok} (h1 : t.k ≠ 110) (h2 : t.k ≠ 111) (s : List UInt8) : UInt8.ofNat (tyCase xs its t s) = tyT t.text s := by
  unfold tyT tyCase
  rw [if_neg h1, if_neg h2]
  simp only []
  rw [if_neg (show ¬ (107 : Nat) = 110 by decide), if_neg (show ¬ (107 : Nat) = 111 by decide)]
theorem leaf_ty : ∀ x ∈ spell.drop 11, (decide (0 ≤ idx kMembers x) || decide (0 ≤ idx kFields x) || x == wTrue || x == wFalse) = true → tcode (tyT x []) = wordK (kn x) ∧ isTy (tyT x []) := by decide
theorem over2_ty : ∀ x ∈ ([[43], [45], [60], [60, 61], [61], [111, 114], [97, 110, 100]] : List (List UInt8)), ∀ a ∈ ([110, 116, 109] : List UInt8), ∀ b ∈ ([110, 116, 109] : List UInt8), tcode (tyT x [a, b]) = overK (kn x) [tcode a, tcode b] ∧ (tyT x [a, b] = 0 ∨ isTy (tyT x [a, b])) := by decide
theorem over1_ty : ∀ a ∈ ([110, 116, 109] : List UInt8), tcode (tyT wNot [a]) = overK (kn wNot) [tcode a] ∧ (tyT wNot [a] = 0 ∨ isTy (tyT wNot [a])) := by decide
theorem over3_ty : ∀ a ∈ ([110, 116, 109] : List UInt8), ∀ b ∈ ([110, 116, 109] : List UInt8), ∀ c ∈ ([110, 116, 109] : List UInt8), tcode (tyT wIf [a, b, c]) = overK (kn wIf) [tcode a, tcode b, tcode c] ∧ (tyT wIf [a, b, c] = 0 ∨ isTy (tyT wIf [a, b, c])) := by decide
theorem len_two {l : List Nat} (h : l.length = 2) : ∃ a b, l = [a, b] := by
  match l, h with
  | [a, b], _ => exact ⟨a, b, rfl⟩
theorem len_three {l : List Nat} (h : l.length = 3) : ∃ a b c, l = [a, b, c] := by
  match l, h with
  | [a, b, c], _ => exact ⟨a, b, c, rfl⟩
theorem joins_text {n : Nat} {t : Tok} (h : joins n t = true) : t.text ∈ ([[43], [45], [60], [60, 61], [61], [111, 114], [97, 110, 100]] : List (List UInt8)) ∧ (t.k = 107 ∨ t.k = 115) := by
  unfold joins at h
  simp only [Bool.and_eq_true, decide_eq_true_eq, Bool.or_eq_true, beq_iff_eq] at h
  refine ⟨?_, h.2⟩
  have hm := idx_mem h.1
  unfold signsOf at hm
  split at hm
  · simp at hm; rw [hm]; decide
  · split at hm
    · simp at hm; rw [hm]; decide
    · split at hm
      · simp at hm; rcases hm with hm | hm | hm <;> rw [hm] <;> decide
      · simp at hm; rcases hm with hm | hm <;> rw [hm] <;> decide
theorem isW_text {t : Tok} {x : List UInt8} (h : isW t x = true) : t.text = x ∧ (t.k = 107 ∨ t.k = 115) := by
  unfold isW at h; simp at h; exact ⟨h.2, h.1⟩

/-- What the types under a part make of it: the program's way. -/
theorem ty_leaf (xs : List Itm) (its : List UInt8) {t : Tok} (ht : TokW t) (ha : alone t = true) (ho : t.k ≠ 111) : tcode (UInt8.ofNat (tyCase xs its t [])) = wordK (kindOf t) ∧ isTy (UInt8.ofNat (tyCase xs its t [])) := by
  rcases ht with h | h | h | ⟨h, hm⟩ | ⟨h, hm⟩
  · have e : tyCase xs its t [] = 110 := by unfold tyCase; rw [if_pos h]
    rw [e]; unfold kindOf; rw [if_pos h]; decide
  · exact absurd h ho
  · rw [alone, h] at ha; simp at ha
  · have hx : (decide (0 ≤ idx kMembers t.text) || decide (0 ≤ idx kFields t.text) || t.text == wTrue || t.text == wFalse) = true := by
      rw [alone, h] at ha; simpa using ha
    rw [tyT_eq xs its (by omega) (by omega), kind_word (.inl h)]
    exact leaf_ty _ hm hx
  · rw [alone, h] at ha; simp at ha
theorem ty_over {xs : List Itm} {its : List UInt8} {p : Pt} (hs : Shape p) (hn : p.subs ≠ []) {F : Nat → UInt8} (hF : ∀ j ∈ p.subs, isTy (F j)) :
    tcode (UInt8.ofNat (tyCase xs its p.tok (p.subs.map F))) = overK (kindOf p.tok) (p.subs.map fun j => tcode (F j)) ∧ (UInt8.ofNat (tyCase xs its p.tok (p.subs.map F)) = 0 ∨ isTy (UInt8.ofNat (tyCase xs its p.tok (p.subs.map F)))) := by
  rcases hs with ⟨_, h⟩ | ⟨h, hl⟩ | ⟨h, hl⟩ | ⟨n, _, h, hl⟩
  · exact absurd h hn
  · obtain ⟨e, hk⟩ := isW_text h
    obtain ⟨a, ea⟩ : ∃ a, p.subs = [a] := List.length_eq_one_iff.1 hl
    rw [tyT_eq xs its (by omega) (by omega), kind_word hk, e, ea]
    exact over1_ty _ (isTy_mem (hF a (by simp [ea])))
  · obtain ⟨e, hk⟩ := isW_text h
    obtain ⟨a, b, c, ea⟩ : ∃ a b c, p.subs = [a, b, c] := len_three hl
    rw [tyT_eq xs its (by omega) (by omega), kind_word hk, e, ea]
    exact over3_ty _ (isTy_mem (hF a (by simp [ea]))) _ (isTy_mem (hF b (by simp [ea]))) _ (isTy_mem (hF c (by simp [ea])))
  · obtain ⟨e, hk⟩ := joins_text h
    obtain ⟨a, b, ea⟩ : ∃ a b, p.subs = [a, b] := len_two hl
    rw [tyT_eq xs its (by omega) (by omega), kind_word hk, ea]
    exact over2_ty _ e _ (isTy_mem (hF a (by simp [ea]))) _ (isTy_mem (hF b (by simp [ea])))

/-- Every own name of some parts has a let among the first items. -/
def Given (xs : List Itm) (n : Nat) (L : List Pt) (lo hi : Nat) : Prop := ∀ q, lo ≤ q → q < hi → (L.getD q noPt).tok.k = 111 → (L.getD q noPt).tok.text ≠ [] ∧ 0 ≤ letIx xs (L.getD q noPt).tok.text n

theorem forest_bounds {f : Nat} {L : List Pt} (js : List Nat) : ∀ {lo hi}, Forest (TreeF f L) lo js hi → ∀ j ∈ js, ∃ lo', lo ≤ lo' ∧ j < hi ∧ TreeF f L lo' j := by
  induction js with
  | nil => intro lo hi _ j hj; simp at hj
  | cons x js ih =>
    intro lo hi h j hj
    have h1 := h.1.le
    have h2 := forest_le (T := TreeF f L) (fun lo j hj => hj.le) js h.2
    simp at hj
    rcases hj with rfl | hj
    · exact ⟨lo, Nat.le_refl _, by omega, h.1⟩
    · obtain ⟨lo', a, b, c⟩ := ih h.2 j hj
      exact ⟨lo', by omega, b, c⟩

theorem letIx_its {xs : List Itm} {its : List UInt8} (hi : ∀ c ∈ its, isTy c) (s : List UInt8) (h0 : 0 ≤ letIx xs s its.length) : isTy (its.getD (letIx xs s its.length).toNat 0) := by
  have h1 := (letIx_lt xs s its.length).1
  have h2 : (letIx xs s its.length).toNat < its.length := by omega
  rw [List.getD_eq_getElem?_getD, List.getElem?_eq_getElem h2]
  exact hi _ (List.getElem_mem h2)

theorem tyOf_ty {xs : List Itm} {its : List UInt8} {L : List Pt} (hW : ∀ k, k < L.length → TokW (L.getD k noPt).tok) (hi : ∀ c ∈ its, isTy c) (f : Nat) : ∀ {lo i : Nat}, TreeF f L lo i → Given xs its.length L lo (i + 1) → tyOf xs its L f i = 0 ∨ isTy (tyOf xs its L f i) := by
  induction f with
  | zero => intro lo i h; exact h.elim
  | succ f ih =>
    intro lo i h hg
    rw [tyOf]
    split
    · exact .inl rfl
    · rename_i hc
      by_cases ho : (L.getD i noPt).tok.k = 111
      · right
        have := letIx_its hi _ (hg i h.le (by omega) ho).2
        have e : tyCase xs its (L.getD i noPt).tok ((L.getD i noPt).subs.map (tyOf xs its L f)) = (its.getD (letIx xs (L.getD i noPt).tok.text its.length).toNat 0).toNat := by
          unfold tyCase; rw [if_neg (by omega), if_pos ho]
        rw [e, UInt8.ofNat_toNat]; exact this
      · by_cases hs : (L.getD i noPt).subs = []
        · rw [hs]
          have ha : alone (L.getD i noPt).tok = true := by
            rcases h.2.1 with ⟨h1, _⟩ | ⟨_, h1⟩ | ⟨_, h1⟩ | ⟨n, _, _, h1⟩
            · exact h1
            all_goals (rw [hs] at h1; simp at h1)
          exact .inr (ty_leaf xs its (hW i h.1) ha ho).2
        · refine (ty_over h.2.1 hs fun j hj => ?_).2
          obtain ⟨lo', a, b, c⟩ := forest_bounds _ h.2.2 j hj
          rcases ih c (fun q h1 h2 => hg q (by omega) (by omega)) with h0 | h0
          · exact absurd (by rw [List.contains_iff_mem, ← h0]; exact List.mem_map_of_mem hj) hc
          · exact h0
end Go.Proofs.YtfkdailfcmnjlaaGreatDoor

namespace Go.Proofs.YtfkdailfcmnjlaaGreatDoor
open Go Go.RowKit
set_option maxRecDepth 100000

/-- What a word tells that stands alone. -/
def wordI (xs : List Itm) (vals fl : List Int) (t : Tok) : Int :=
  if t.k = 110 then decVal t.text else if t.k = 111 then vals.getD (letIx xs t.text vals.length).toNat 0
  else if 0 ≤ idx kFields t.text then fl.getD (idx kFields t.text).toNat 0 else if 0 ≤ idx kMembers t.text then idx kMembers t.text else truthI (t.text == wTrue)
/-- What a part tells, by what the parts under it tell. -/
def overI (s : List UInt8) (w : Int) : List Int → Int
  | [] => w
  | [a] => 1 - a
  | [a, b] => twoI s a b
  | a :: b :: c :: _ => if a = 1 then b else c
def tellF (xs : List Itm) (vals fl : List Int) (L : List Pt) : Nat → Nat → Int
  | 0, _ => 0
  | f + 1, k => overI (L.getD k noPt).tok.text (wordI xs vals fl (L.getD k noPt).tok) ((L.getD k noPt).subs.map (tellF xs vals fl L f))

/-- A value of a type. -/
def Has (c : UInt8) (v : Int) : Prop := In64 v ∧ (c = 116 → v = 0 ∨ v = 1)
theorem has_truth (c : UInt8) (b : Bool) : Has c (truthI b) := by
  unfold truthI Has In64; cases b <;> simp
def tysF : List UInt8 := [110, 110, 110, 110, 109, 109, 109, 116, 116]
structure FieldsOK (fl : List Int) : Prop where
  len : fl.length = 9
  has : ∀ i, i < 9 → Has (tysF.getD i 0) (fl.getD i 0)
structure ValsOK (its : List UInt8) (vals : List Int) : Prop where
  len : vals.length = its.length
  has : ∀ i, i < its.length → Has (its.getD i 0) (vals.getD i 0)
theorem ValsOK.snoc {its : List UInt8} {vals : List Int} (h : ValsOK its vals) {c : UInt8} {v : Int} (hv : Has c v) : ValsOK (its ++ [c]) (vals ++ [v]) := by
  refine ⟨by simp [h.len], fun i hi => ?_⟩
  have hl := h.len
  rcases Nat.lt_or_ge i its.length with h1 | h1
  · have := h.has i h1
    rw [List.getD_eq_getElem?_getD, List.getD_eq_getElem?_getD] at this ⊢
    rw [List.getElem?_append_left (by omega), List.getElem?_append_left (by omega)]; exact this
  · have e : i = its.length := by simp at hi; omega
    subst e
    rw [List.getD_eq_getElem?_getD, List.getD_eq_getElem?_getD, List.getElem?_append_right (by omega), List.getElem?_append_right (by omega), hl]
    simpa using hv

theorem two_has (s : List UInt8) {a b : Int} (c : UInt8) (h : s = [43] ∨ s = [45] → c ≠ 116) : Has c (twoI s a b) := by
  unfold twoI
  by_cases h0 : s = [43]
  · rw [if_pos h0]; exact ⟨clamp_in _, fun e => absurd e (h (.inl h0))⟩
  rw [if_neg h0]
  by_cases h1 : s = [45]
  · rw [if_pos h1]; exact ⟨clamp_in _, fun e => absurd e (h (.inr h1))⟩
  rw [if_neg h1]
  split
  · exact has_truth _ _
  split
  · exact has_truth _ _
  split
  · exact has_truth _ _
  split
  · exact has_truth _ _
  · exact has_truth _ _
theorem fields_idx (x : List UInt8) (h : 0 ≤ idx kFields x) : ∃ n : Nat, idx kFields x = n ∧ n < 9 := by
  have := idx_lt kFields x
  have e : (kFields.length : Int) = 9 := rfl
  exact ⟨(idx kFields x).toNat, by omega, by omega⟩
theorem members_idx (x : List UInt8) (h : 0 ≤ idx kMembers x) : idx kMembers x < 5 := by
  have := idx_lt kMembers x
  have e : (kMembers.length : Int) = 5 := rfl
  omega
theorem ty_plus (x : List UInt8) (h : x = [43] ∨ x = [45]) (s : List UInt8) : tyT x s ≠ 116 := by
  have e : tyT x s = UInt8.ofNat (if s = [110, 110] then 110 else 0) := by
    rcases h with rfl | rfl <;> rfl
  rw [e]; split <;> decide
theorem ty_not (s : List UInt8) (h : tyT wNot s ≠ 0) : s = [116] := by
  have e : tyT wNot s = UInt8.ofNat (if s = [116] then 116 else 0) := rfl
  rw [e] at h
  by_cases h1 : s = [116]
  · exact h1
  · rw [if_neg h1] at h; exact absurd rfl h
theorem ty_if {a b c : UInt8} (h : tyT wIf [a, b, c] ≠ 0) : a = 116 ∧ b = c ∧ tyT wIf [a, b, c] = b := by
  have e : tyT wIf [a, b, c] = UInt8.ofNat (if a.toNat = 116 ∧ b.toNat = c.toNat then b.toNat else 0) := rfl
  rw [e] at h
  by_cases h1 : a.toNat = 116 ∧ b.toNat = c.toNat
  · refine ⟨UInt8.toNat_inj.1 h1.1, UInt8.toNat_inj.1 h1.2, ?_⟩
    rw [e, if_pos h1, UInt8.ofNat_toNat]
  · rw [if_neg h1] at h; exact absurd rfl h

theorem word_has {xs : List Itm} {its : List UInt8} {vals fl : List Int} (hV : ValsOK its vals) (hF : FieldsOK fl) {t : Tok} (ha : alone t = true) (hn : t.k = 110 → decVal t.text ≤ 9223372036854775807)
    (ho : t.k = 111 → 0 ≤ letIx xs t.text its.length) : Has (UInt8.ofNat (tyCase xs its t [])) (wordI xs vals fl t) := by
  unfold wordI tyCase
  by_cases h1 : t.k = 110
  · rw [if_pos h1, if_pos h1]
    have := hn h1
    exact ⟨by unfold In64; omega, fun e => absurd e (by decide)⟩
  rw [if_neg h1, if_neg h1]
  by_cases h2 : t.k = 111
  · rw [if_pos h2, if_pos h2, hV.len]
    have h3 := ho h2
    have h4 := (letIx_lt xs t.text its.length).1
    rw [UInt8.ofNat_toNat]
    exact hV.has _ (by omega)
  rw [if_neg h2, if_neg h2]
  by_cases h3 : 0 ≤ idx kFields t.text
  · rw [if_pos h3, if_pos h3]
    obtain ⟨n, e, hn9⟩ := fields_idx _ h3
    rw [e, Int.toNat_natCast, UInt8.ofNat_toNat]
    exact hF.has n hn9
  rw [if_neg h3, if_neg h3]
  by_cases h4 : 0 ≤ idx kMembers t.text
  · rw [if_pos h4, if_pos h4]
    have := members_idx _ h4
    exact ⟨by unfold In64; omega, fun e => absurd e (by decide)⟩
  rw [if_neg h4, if_neg h4]
  exact has_truth _ _

/-- A condition of a type tells a value of it. -/
theorem tell_has {xs : List Itm} {its : List UInt8} {vals fl : List Int} {L : List Pt} (hV : ValsOK its vals) (hF : FieldsOK fl) (hN : ∀ k, k < L.length → (L.getD k noPt).tok.k = 110 → decVal (L.getD k noPt).tok.text ≤ 9223372036854775807) (f : Nat) :
    ∀ {lo i : Nat}, TreeF f L lo i → Given xs its.length L lo (i + 1) → tyOf xs its L f i ≠ 0 → Has (tyOf xs its L f i) (tellF xs vals fl L f i) := by
  induction f with
  | zero => intro lo i h; exact h.elim
  | succ f ih =>
    intro lo i h hg hty
    rw [tellF]
    rw [tyOf] at hty ⊢
    by_cases hc : ((L.getD i noPt).subs.map (tyOf xs its L f)).contains 0 = true
    · rw [if_pos hc] at hty; exact absurd rfl hty
    rw [if_neg hc] at hty ⊢
    have hsub : ∀ j ∈ (L.getD i noPt).subs, Has (tyOf xs its L f j) (tellF xs vals fl L f j) := fun j hj => by
      obtain ⟨lo', a, b, c⟩ := forest_bounds _ h.2.2 j hj
      refine ih c (fun q h1 h2 => hg q (by omega) (by omega)) fun e => hc ?_
      rw [List.contains_iff_mem, ← e]; exact List.mem_map_of_mem hj
    rcases h.2.1 with ⟨ha, hs⟩ | ⟨hw, hl⟩ | ⟨hw, hl⟩ | ⟨n, _, hj, hl⟩
    · rw [hs]
      exact word_has hV hF ha (hN i h.1) fun ho => (hg i h.le (by omega) ho).2
    · obtain ⟨e, hk⟩ := isW_text hw
      obtain ⟨a, ea⟩ : ∃ a, (L.getD i noPt).subs = [a] := List.length_eq_one_iff.1 hl
      rw [tyT_eq xs its (by omega) (by omega), e, ea] at hty ⊢
      have h1 := hsub a (by rw [ea]; simp)
      have h2 := ty_not _ hty
      simp only [List.map_cons, List.map_nil, List.cons.injEq, and_true] at h2
      have h3 := h1.2 h2
      simp only [List.map_cons, List.map_nil, overI]
      refine ⟨?_, fun _ => ?_⟩
      · unfold In64; omega
      · omega
    · obtain ⟨e, hk⟩ := isW_text hw
      obtain ⟨a, b, c, ea⟩ : ∃ a b c, (L.getD i noPt).subs = [a, b, c] := len_three hl
      rw [tyT_eq xs its (by omega) (by omega), e, ea] at hty ⊢
      simp only [List.map_cons, List.map_nil] at hty ⊢
      obtain ⟨h1, h2, h3⟩ := ty_if hty
      rw [h3]
      simp only [overI]
      split
      · exact hsub b (by rw [ea]; simp)
      · rw [h2]; exact hsub c (by rw [ea]; simp)
    · obtain ⟨e, hk⟩ := joins_text hj
      obtain ⟨a, b, ea⟩ : ∃ a b, (L.getD i noPt).subs = [a, b] := len_two hl
      rw [tyT_eq xs its (by omega) (by omega), ea]
      simp only [List.map_cons, List.map_nil, overI]
      exact two_has _ _ fun h => ty_plus _ h _
end Go.Proofs.YtfkdailfcmnjlaaGreatDoor

namespace Go.Proofs.YtfkdailfcmnjlaaGreatDoor
open Go Go.RowKit
set_option maxRecDepth 100000
attribute [local go_sem ↓] Go.wp_at_zero Go.wp_at_succ

/-- A list of users with a number each, at a slice. -/
def PairsAt (v : Value) (ls : List (List UInt8 × Int)) (w : World) : Prop :=
  ls.length ≤ maxLen ∧ ∃ a cap, v = .slice a ls.length cap ∧ ∀ i, i < ls.length → ∃ b o, a = some ⟨b, o, none⟩ ∧ w.cell? ⟨b, o + i * 2, none⟩ = some (S (ls.getD i ([], 0)).1) ∧ w.cell? ⟨b, o + i * 2 + 1, none⟩ = some (.int .i64 (ls.getD i ([], 0)).2) ∧ In64 (ls.getD i ([], 0)).2
theorem PairsAt.below {v : Value} {ls : List (List UInt8 × Int)} {w w' : World} (h : PairsAt v ls w) (hb : Below w.heap.size w w') : PairsAt v ls w' := by
  obtain ⟨h0, a, cap, h1, h2⟩ := h
  refine ⟨h0, a, cap, h1, fun i hi => ?_⟩
  obtain ⟨b, o, e, c0, c1, hn⟩ := h2 i hi
  refine ⟨b, o, e, ?_, ?_, hn⟩
  · rw [hb.cell (p := ⟨b, o + i * 2, none⟩) (World.block_lt_of_cell? w _ c0)]; exact c0
  · rw [hb.cell (p := ⟨b, o + i * 2 + 1, none⟩) (World.block_lt_of_cell? w _ c1)]; exact c1
end Go.Proofs.YtfkdailfcmnjlaaGreatDoor

namespace Go.Proofs.YtfkdailfcmnjlaaGreatDoor
open Go Go.RowKit
set_option maxRecDepth 100000
attribute [local go_sem ↓] Go.wp_at_zero Go.wp_at_succ

theorem idx_le (l : List (List UInt8)) (s : List UInt8) : idx l s < l.length ∨ l = [] := by
  induction l with
  | nil => exact .inr rfl
  | cons x r ih =>
    left; unfold idx
    rcases ih with ih | ih
    · simp only [List.length_cons]
      split
      · omega
      · split <;> omega
    · subst ih; split <;> simp [idx]
theorem kind_le (t : Tok) : kindOf t ≤ 100 := by
  have h : idx spell t.text < 36 := by
    rcases idx_le spell t.text with h | h
    · exact h
    · simp [spell] at h
  unfold kindOf; split; omega; split; omega; split; omega; omega

/-- What reading a condition leaves. -/
def LeftC (rb gl cl : Nat) (ts : List Tok) (s : Q) (w : World) (r : Rd) (e : Ending) (w' : World) : Prop :=
  ∃ b, e = .returned (.pointer (some ⟨b, 0, none⟩)) ∧ PF rb w w' ∧ ((r.ok = true ∧ RR rb gl cl ts { s with i := r.i } w' ∧ CondAt r.L rb w' r.top b) ∨ (r.ok = false ∧ RR rb gl cl ts (failQ ts { s with i := r.i }) w'))
/-- What it leaves where it had failed. -/
def LeftE (rb gl cl : Nat) (ts : List Tok) (s : Q) (w : World) (e : Ending) (w' : World) : Prop :=
  ∃ b, e = .returned (.pointer (some ⟨b, 0, none⟩)) ∧ PF rb w w' ∧ RR rb gl cl ts s w'

theorem leaf_at (L : List Pt) (w : World) (t : Tok) (b : Nat) {lo : Nat} (hlo : lo ≤ b) (h : w.heap[b]? = some (cdObj t (.slice none 0 0) 0)) : CondAt (L ++ [⟨t, []⟩]) lo w L.length b := by
  have e : (L ++ [(⟨t, []⟩ : Pt)]).getD L.length noPt = ⟨t, []⟩ := by simp [List.getD_eq_getElem?_getD]
  exact .mk L.length b (.slice none 0 0) (fun _ => 0) (by simp) hlo (by rw [e]; exact h) (by rw [e]; exact .inl ⟨rfl, rfl⟩) (by rw [e]; intro j hj; simp at hj) (by rw [e]; intro j hj; simp at hj)

set_option maxHeartbeats 2000000 in
theorem single_yes {rb gl cl : Nat} {ts : List Tok} {s : Q} {w : World} (h : RR rb gl cl ts s w) (ht : TokW (tokAt ts s.i)) (ha : alone (tokAt ts s.i) = true) (L : List Pt) :
    Calls Tryz.prog 286 #[.pointer (some ⟨rb, 0, none⟩)] w (LeftC rb gl cl ts s w ⟨true, s.i + 1, L ++ [⟨tokAt ts s.i, []⟩], L.length⟩) := by
  rw [alone_iff ht] at ha
  have hk0 : kindOf (tokAt ts s.i) ≠ 0 := fun e => by rw [e] at ha; exact absurd ha (by decide)
  have hmore := h.more hk0
  have HK := kind_any h
  have HS := standsAlone_any (kindOf (tokAt ts s.i)) w.drew (kind_le _)
  rw [ha] at HS
  have HT := take_any h.drew hmore
  unfold wordV at HT
  have hF : PF rb w w.drew := (PF.refl rb w).drew
  have HF : Hid _ := hF
  clear hF h ht ha hk0
  go_enter Tryz.func286, Tryz.ntmps286
  go_wp2_with fail
  refine HK.mono ?_
  rintro e w' ⟨rfl, rfl⟩
  go_wp2_with fail
  refine HS.mono ?_
  rintro e w' ⟨rfl, rfl⟩
  go_wp2_with fail
  refine HT.mono ?_
  rintro e w3 ⟨rfl, h3, F3⟩
  have HF3 : Hid _ := HF.out.trans F3
  have H3 : Hid _ := h3
  clear HK HS HT HF F3 h3
  go_wp2_with fail
  go_ret
  refine ⟨w3.heap.size, rfl, HF3.out.alloc _, .inl ⟨rfl, H3.out.alloc _, ?_⟩⟩
  exact leaf_at L _ _ _ (Nat.le_of_lt H3.out.rlt) (heap_alloc_new w3 _)

set_option maxHeartbeats 2000000 in
theorem single_fail {rb gl cl : Nat} {ts : List Tok} {s : Q} {w : World} (h : RR rb gl cl ts s w) (ha : standsK (kindOf (tokAt ts s.i)) = false) :
    Calls Tryz.prog 286 #[.pointer (some ⟨rb, 0, none⟩)] w fun e w' => ∃ b, e = .returned (.pointer (some ⟨b, 0, none⟩)) ∧ PF rb w w' ∧ RR rb gl cl ts (failQ ts s) w' := by
  have HK := kind_any h
  have HS := standsAlone_any (kindOf (tokAt ts s.i)) w.drew (kind_le _)
  rw [ha] at HS
  have HT := fail_any h.drew
  have hF : PF rb w w.drew := (PF.refl rb w).drew
  have HF : Hid _ := hF
  clear hF h ha
  go_enter Tryz.func286, Tryz.ntmps286
  go_wp2_with fail
  refine HK.mono ?_
  rintro e w' ⟨rfl, rfl⟩
  go_wp2_with fail
  refine HS.mono ?_
  rintro e w' ⟨rfl, rfl⟩
  go_wp2_with fail
  refine HT.mono ?_
  rintro e w3 ⟨rfl, h3, F3⟩
  have HF3 : Hid _ := HF.out.trans F3
  have H3 : Hid _ := h3
  clear HK HS HT HF F3 h3
  go_wp2_with fail
  go_ret
  exact ⟨w3.heap.size, rfl, HF3.out.alloc _, H3.out.alloc _⟩
theorem single_no {rb gl cl : Nat} {ts : List Tok} {s : Q} {w : World} (h : RR rb gl cl ts s w) (ht : TokW (tokAt ts s.i)) (ha : alone (tokAt ts s.i) = false) :
    Calls Tryz.prog 286 #[.pointer (some ⟨rb, 0, none⟩)] w (LeftC rb gl cl ts s w ⟨false, s.i, [], 0⟩) := by
  rw [alone_iff ht] at ha
  refine (single_fail h ha).mono ?_
  rintro e w' ⟨b, h1, h2, h3⟩
  exact ⟨b, h1, h2, .inr ⟨rfl, h3⟩⟩
theorem failQ_end {ts : List Tok} {s : Q} (hb : s.bad = true) (hi : s.i = ts.length - 1) : failQ ts s = s := by
  unfold failQ; rw [hb, if_pos rfl, ← hi]; cases s; simp at hb; rw [hb]
theorem single_end {rb gl cl : Nat} {ts : List Tok} {s : Q} {w : World} (h : RR rb gl cl ts s w) (hb : s.bad = true) (hi : s.i = ts.length - 1) :
    Calls Tryz.prog 286 #[.pointer (some ⟨rb, 0, none⟩)] w (LeftE rb gl cl ts s w) := by
  refine (single_fail h (by rw [hi, h.fin]; decide)).mono ?_
  rintro e w' ⟨b, h1, h2, h3⟩
  exact ⟨b, h1, h2, by rw [failQ_end hb hi] at h3; exact h3⟩
end Go.Proofs.YtfkdailfcmnjlaaGreatDoor

namespace Go.Proofs.YtfkdailfcmnjlaaGreatDoor
open Go Go.RowKit
set_option maxRecDepth 100000
attribute [local go_sem ↓] Go.wp_at_zero Go.wp_at_succ

/-- A method value of the reader's. -/
def mv (n rb : Nat) : Value := .func (.func n) #[.pointer (some ⟨rb, 0, none⟩)] #[]
/-- A function that can be called. -/
def Ent (n : Nat) : Prop := ∀ (args : Array Value) (w : World), (callFunc n args).run Tryz.prog w = .ok (.enter n args) w

set_option maxHeartbeats 2000000 in
theorem fork_yes {rb gl cl : Nat} {ts : List Tok} {s : Q} {w : World} (h : RR rb gl cl ts s w) (k n m : Nat) (hk : kindOf (tokAt ts s.i) = k) (hn : Ent n) (R : Nat → World → Prop)
    (HC : Calls Tryz.prog n #[.pointer (some ⟨rb, 0, none⟩)] w.drew fun e w' => ∃ b, e = .returned (.pointer (some ⟨b, 0, none⟩)) ∧ R b w') :
    Calls Tryz.prog 213 #[.pointer (some ⟨rb, 0, none⟩), .int .i64 k, mv n rb, mv m rb] w fun e w' => ∃ b, e = .returned (.pointer (some ⟨b, 0, none⟩)) ∧ R b w' := by
  have HK := kind_any h
  rw [hk] at HK
  unfold mv
  unfold Ent at hn
  clear h hk
  go_enter Tryz.func213, Tryz.ntmps213
  go_wp2_with fail
  refine HK.mono ?_
  rintro e w' ⟨rfl, rfl⟩
  go_wp2_with fail
  refine HC.mono ?_
  rintro e w' ⟨b, rfl, hR⟩
  go_wp2_with fail
  go_ret
  exact ⟨b, rfl, hR⟩
set_option maxHeartbeats 2000000 in
theorem fork_no {rb gl cl : Nat} {ts : List Tok} {s : Q} {w : World} (h : RR rb gl cl ts s w) (k n m : Nat) (hk : kindOf (tokAt ts s.i) ≠ k) (hm : Ent m) (R : Nat → World → Prop)
    (HC : Calls Tryz.prog m #[.pointer (some ⟨rb, 0, none⟩)] w.drew fun e w' => ∃ b, e = .returned (.pointer (some ⟨b, 0, none⟩)) ∧ R b w') :
    Calls Tryz.prog 213 #[.pointer (some ⟨rb, 0, none⟩), .int .i64 k, mv n rb, mv m rb] w fun e w' => ∃ b, e = .returned (.pointer (some ⟨b, 0, none⟩)) ∧ R b w' := by
  have HK := kind_any h
  generalize kindOf (tokAt ts s.i) = kd at HK hk
  have hk' : ¬ ((kd : Int) = (k : Int)) := by omega
  have hk2 : ((kd : Int) == (k : Int)) = false := by simpa using hk'
  unfold mv
  unfold Ent at hm
  clear h hk
  go_enter Tryz.func213, Tryz.ntmps213
  go_wp2_with fail
  refine HK.mono ?_
  rintro e w' ⟨rfl, rfl⟩
  go_wp2_with fail
  refine HC.mono ?_
  rintro e w' ⟨b, rfl, hR⟩
  go_wp2_with fail
  go_ret
  exact ⟨b, rfl, hR⟩
end Go.Proofs.YtfkdailfcmnjlaaGreatDoor

namespace Go.Proofs.YtfkdailfcmnjlaaGreatDoor
open Go Go.RowKit
set_option maxRecDepth 100000
attribute [local go_sem ↓] Go.wp_at_zero Go.wp_at_succ

/-- The memory with one part more over two. -/
def joinW (w : World) (t : Tok) (b1 b2 : Nat) : World := (w.alloc (.cells #[.pointer (some ⟨b1, 0, none⟩), .pointer (some ⟨b2, 0, none⟩)] 161 (0, 0))).alloc (cdObj t (.slice (some ⟨w.heap.size, 0, none⟩) 2 2) 0)
set_option maxHeartbeats 2000000 in
theorem join_any {rb gl cl : Nat} {ts : List Tok} {s : Q} {w : World} (h : RR rb gl cl ts s w) (hi : s.i + 1 < ts.length) (n bl : Nat) (hn : Ent n) (R : Nat → World → Prop)
    (HC : ∀ w1, RR rb gl cl ts { s with i := s.i + 1 } w1 → PF rb w w1 → Calls Tryz.prog n #[.pointer (some ⟨rb, 0, none⟩)] w1 fun e w' => ∃ b, e = .returned (.pointer (some ⟨b, 0, none⟩)) ∧ PF rb w1 w' ∧ R b w') :
    Calls Tryz.prog 266 #[.pointer (some ⟨rb, 0, none⟩), .pointer (some ⟨bl, 0, none⟩), mv n rb] w fun e w' => ∃ b w3, e = .returned (.pointer (some ⟨w3.heap.size + 1, 0, none⟩)) ∧ R b w3 ∧ PF rb w w3 ∧ w' = joinW w3 (tokAt ts s.i) bl b := by
  have HJ : Hid (∀ w3 b, joinW w3 (tokAt ts s.i) bl b = (w3.alloc (.cells #[.pointer (some ⟨bl, 0, none⟩), .pointer (some ⟨b, 0, none⟩)] 161 (0, 0))).alloc (.cells #[.int .i64 (kindOf (tokAt ts s.i)), .int .i64 (tokAt ts s.i).pl, .int .i64 (nmOf (tokAt ts s.i)), S (ownOf (tokAt ts s.i)), .slice (some ⟨w3.heap.size, 0, none⟩) 2 2, .int .i64 0] 229 (0, 0))) := fun _ _ => rfl
  have HT := take_any h hi
  unfold wordV at HT
  unfold mv
  unfold Ent at hn
  go_enter Tryz.func266, Tryz.ntmps266
  go_wp2_with fail
  refine HT.mono ?_
  rintro e w1 ⟨rfl, h1, F1⟩
  clear HT
  generalize kindOf (tokAt ts s.i) = tk at *
  generalize (tokAt ts s.i).pl = tp at *
  generalize nmOf (tokAt ts s.i) = tm at *
  generalize ownOf (tokAt ts s.i) = tt at *
  have hlt1 := h1.rlt
  have h2 := (h1.alloc (wvObj tk tp tm tt)).drew
  have F2 := ((F1.alloc (wvObj tk tp tm tt)).drew)
  have hx2 : (w1.alloc (wvObj tk tp tm tt)).drew.heap[w1.heap.size]? = some (wvObj tk tp tm tt) := heap_alloc_new w1 _
  have HCD := HC _ h2 F2
  have e1 : w1.heap.size ≠ rb := by omega
  have hl2 : w1.heap.size < (w1.alloc (wvObj tk tp tm tt)).drew.heap.size := lt_of_get hx2
  have keepF : ∀ w', PF rb (w1.alloc (wvObj tk tp tm tt)).drew w' → (w'.cell? ⟨w1.heap.size, 0, none⟩ = some (.int .i64 tk) ∧ w'.cell? ⟨w1.heap.size, 1, none⟩ = some (.int .i64 tp) ∧ w'.cell? ⟨w1.heap.size, 2, none⟩ = some (.int .i64 tm) ∧ w'.cell? ⟨w1.heap.size, 3, none⟩ = some (S tt)) := fun w' hf =>
    (wv_cells (by rw [hf.block _ hl2 e1]; exact hx2)).1
  have KF : Hid _ := keepF
  have H2 : Hid _ := h2
  have HF2 : Hid _ := F2
  have hS := keepF _ (PF.refl _ _)
  clear HC h1 F1 h2 F2 hx2 keepF h
  unfold wvObj at HCD KF H2 HF2 hS hl2
  go_wp2_with fail
  obtain ⟨x0, x1, x2, x3⟩ := hS
  show Code.wp _ _ _ _ (w1.alloc (.cells #[.int .i64 tk, .int .i64 tp, .int .i64 tm, S tt] 160 (0, 0)))
  generalize hg : w1.alloc (.cells #[.int .i64 tk, .int .i64 tp, .int .i64 tm, S tt] 160 (0, 0)) = w2 at *
  generalize w1.heap.size = bx at *
  clear hg hlt1
  go_region_held3 (fun w' => w'.cell? ⟨bx, 0, none⟩ = some (.int .i64 tk) ∧ w'.cell? ⟨bx, 1, none⟩ = some (.int .i64 tp) ∧ w'.cell? ⟨bx, 2, none⟩ = some (.int .i64 tm) ∧ w'.cell? ⟨bx, 3, none⟩ = some (S tt)) (first | exact KF.out _ hF3 | go_keep) ((refine HCD.mono ?_; rintro e w3 ⟨b, rfl, hF3, hR⟩))
  rename_i hHeld
  clear hHeld
  go_wp2_with fail
  go_ret
  exact ⟨b, w3, rfl, hR, HF2.out.trans hF3, (HJ.out w3 b).symm⟩
end Go.Proofs.YtfkdailfcmnjlaaGreatDoor
