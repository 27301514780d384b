/-
  The parts of a condition that the plain reader read are a tree: each part's tree is a run of parts that ends with it; own names stand in the order of the text. Of trees of parts: how many parts there are, how deep they are, and which own name is the first wrong one. Of lets: their place among the lets alone, and among all items; types as the program numbers them. Of own names in trees: where none is wrong, each has a let ahead of it. A policy's plain form: plain Lean functions; how long it can be. A condition as it is written: the plain reader reads of its words the tree that was meant.
-/
import Derived.Test.YtfkdailfcmnjlaaGreatDoorCompiles01
set_option linter.unusedVariables false
set_option linter.unusedSimpArgs false
namespace Go.Proofs.YtfkdailfcmnjlaaGreatDoor

/-- What a part may be. -/
def Shape (p : Pt) : Prop := (alone p.tok = true ∧ p.subs = []) ∨ (isW p.tok wNot = true ∧ p.subs.length = 1) ∨ (isW p.tok wIf = true ∧ p.subs.length = 3) ∨ (∃ n, isChain n ∧ joins n p.tok = true ∧ p.subs.length = 2)
/-- Trees one behind the other. -/
def Forest (T : Nat → Nat → Prop) : Nat → List Nat → Nat → Prop
  | lo, [], hi => lo = hi
  | lo, j :: js, hi => T lo j ∧ Forest T (j + 1) js hi
/-- The tree of a part is the run from a place up to it. -/
def TreeF : Nat → List Pt → Nat → Nat → Prop
  | 0, _, _, _ => False
  | f + 1, L, lo, i => i < L.length ∧ Shape (L.getD i noPt) ∧ Forest (TreeF f L) lo (L.getD i noPt).subs i

theorem Forest.mono {T T' : Nat → Nat → Prop} {js : List Nat} (hT : ∀ lo j, T lo j → T' lo j) : ∀ {lo hi}, Forest T lo js hi → Forest T' lo js hi := by
  induction js with
  | nil => intro lo hi h; exact h
  | cons j js ih => intro lo hi h; exact ⟨hT _ _ h.1, ih h.2⟩
theorem TreeF.up {f : Nat} : ∀ {L : List Pt} {lo i : Nat}, TreeF f L lo i → TreeF (f + 1) L lo i := by
  induction f with
  | zero => intro L lo i h; exact h.elim
  | succ f ih => intro L lo i h; exact ⟨h.1, h.2.1, h.2.2.mono fun lo j hj => ih hj⟩
theorem TreeF.upto {f g : Nat} (hg : f ≤ g) {L : List Pt} {lo i : Nat} (h : TreeF f L lo i) : TreeF g L lo i := by
  induction hg with
  | refl => exact h
  | step _ ih => exact ih.up
theorem TreeF.lt {f : Nat} {L : List Pt} {lo i : Nat} (h : TreeF f L lo i) : i < L.length := by
  cases f with
  | zero => exact h.elim
  | succ f => exact h.1
theorem TreeF.more {f : Nat} : ∀ {L : List Pt} {lo i : Nat}, TreeF f L lo i → ∀ new, TreeF f (L ++ new) lo i := by
  induction f with
  | zero => intro L lo i h; exact h.elim
  | succ f ih =>
    intro L lo i h new
    have e := getD_left (M := new) h.1
    refine ⟨by have := h.1; simp; omega, by rw [e]; exact h.2.1, by rw [e]; exact h.2.2.mono fun lo j hj => ih hj new⟩
def Tree (L : List Pt) (lo i : Nat) : Prop := ∃ f, TreeF f L lo i
theorem Tree.more {L : List Pt} {lo i : Nat} (h : Tree L lo i) {L' : List Pt} (hm : ∃ new, L' = L ++ new) : Tree L' lo i := by
  obtain ⟨f, h⟩ := h
  obtain ⟨new, rfl⟩ := hm
  exact ⟨f, h.more new⟩
theorem Tree.put {L : List Pt} {lo : Nat} {p : Pt} (hs : Shape p) {f : Nat} (hF : Forest (TreeF f L) lo p.subs L.length) : Tree (L ++ [p]) lo L.length :=
  ⟨f + 1, by simp, by rw [getD_last]; exact hs, by rw [getD_last]; exact hF.mono fun lo j hj => hj.more _⟩
theorem Tree.put1 {L : List Pt} {lo a : Nat} {p : Pt} (hs : Shape p) (hp : p.subs = [a]) (ha : Tree L lo a) (e : a + 1 = L.length) : Tree (L ++ [p]) lo L.length := by
  obtain ⟨f, ha⟩ := ha
  exact Tree.put (f := f) hs (by rw [hp]; exact ⟨ha, e⟩)
theorem Tree.put2 {L : List Pt} {lo a b : Nat} {p : Pt} (hs : Shape p) (hp : p.subs = [a, b]) (ha : Tree L lo a) (hb : Tree L (a + 1) b) (e : b + 1 = L.length) : Tree (L ++ [p]) lo L.length := by
  obtain ⟨f, ha⟩ := ha
  obtain ⟨g, hb⟩ := hb
  exact Tree.put (f := max f g) hs (by rw [hp]; exact ⟨ha.upto (by omega), hb.upto (by omega), e⟩)
theorem Tree.put3 {L : List Pt} {lo a b c : Nat} {p : Pt} (hs : Shape p) (hp : p.subs = [a, b, c]) (ha : Tree L lo a) (hb : Tree L (a + 1) b) (hc : Tree L (b + 1) c) (e : c + 1 = L.length) : Tree (L ++ [p]) lo L.length := by
  obtain ⟨f, ha⟩ := ha
  obtain ⟨g, hb⟩ := hb
  obtain ⟨k, hc⟩ := hc
  exact Tree.put (f := max f (max g k)) hs (by rw [hp]; exact ⟨ha.upto (by omega), hb.upto (by omega), hc.upto (by omega), e⟩)

/-- Words stand one behind the other. -/
def Sorted (ts : List Tok) : Prop := ∀ m n, m < n → n < ts.length → (tokAt ts m).pl < (tokAt ts n).pl
/-- The own names among the parts stand as in the text, ahead of a word. -/
def OwnUp (ts : List Tok) (L : List Pt) (i : Nat) : Prop :=
  (∀ k, k < L.length → (L.getD k noPt).tok.k = 111 → ∃ m, m < i ∧ m < ts.length ∧ (L.getD k noPt).tok = tokAt ts m) ∧
  (∀ k q, k < q → q < L.length → (L.getD k noPt).tok.k = 111 → (L.getD q noPt).tok.k = 111 → (L.getD k noPt).tok.pl < (L.getD q noPt).tok.pl) ∧
  (∀ k, k < L.length → (L.getD k noPt).tok ∈ ts)
theorem inside {ts : List Tok} {i : Nat} (h : tokAt ts i ≠ noTok) : i < ts.length ∧ tokAt ts i ∈ ts := by
  have hi : i < ts.length := by
    rcases Nat.lt_or_ge i ts.length with h1 | h1
    · exact h1
    · exact absurd (by unfold tokAt; rw [List.getD_eq_getElem?_getD, List.getElem?_eq_none (by omega)]; rfl) h
  exact ⟨hi, by unfold tokAt; rw [List.getD_eq_getElem?_getD, List.getElem?_eq_getElem hi]; exact List.getElem_mem hi⟩
theorem noTok_isW (x : List UInt8) : isW noTok x = false := rfl
theorem noTok_joins (n : Nat) : joins n noTok = false := by unfold joins noTok; simp
theorem OwnUp.mono {ts : List Tok} {L : List Pt} {i j : Nat} (h : OwnUp ts L i) (hj : i ≤ j) : OwnUp ts L j :=
  ⟨fun k hk ho => by obtain ⟨m, h1, h2⟩ := h.1 k hk ho; exact ⟨m, by omega, h2⟩, h.2⟩
theorem OwnUp.other {ts : List Tok} {L : List Pt} {i : Nat} (h : OwnUp ts L i) (p : Pt) (hp : p.tok.k ≠ 111) (hm : p.tok ∈ ts) : OwnUp ts (L ++ [p]) i := by
  have key : ∀ k, k < (L ++ [p]).length → ((L ++ [p]).getD k noPt).tok.k = 111 → k < L.length := fun k hk ho => by
    rcases Nat.lt_or_ge k L.length with h1 | h1
    · exact h1
    · have : k = L.length := by simp at hk; omega
      subst this; rw [getD_last] at ho; exact absurd ho hp
  refine ⟨fun k hk ho => ?_, fun k q hkq hq hk1 hq1 => ?_, fun k hk => ?_⟩
  · have h1 := key k hk ho
    rw [getD_left h1] at ho ⊢; exact h.1 k h1 ho
  · have h2 := key q hq hq1
    have h1 : k < L.length := by omega
    rw [getD_left h1] at hk1 ⊢; rw [getD_left h2] at hq1 ⊢
    exact h.2.1 k q hkq h2 hk1 hq1
  · rcases Nat.lt_or_ge k L.length with h1 | h1
    · rw [getD_left h1]; exact h.2.2 k h1
    · have : k = L.length := by simp at hk; omega
      subst this; rw [getD_last]; exact hm
theorem OwnUp.next {ts : List Tok} {L : List Pt} {i : Nat} (hS : Sorted ts) (h : OwnUp ts L i) (ha : alone (tokAt ts i) = true) : OwnUp ts (L ++ [⟨tokAt ts i, []⟩]) (i + 1) := by
  obtain ⟨hi, hmem⟩ := inside (ts := ts) (i := i) fun e => by rw [e] at ha; exact absurd ha (by decide)
  refine ⟨fun k hk ho => ?_, fun k q hkq hq hk1 hq1 => ?_, fun k hk => ?_⟩
  · rcases Nat.lt_or_ge k L.length with h1 | h1
    · rw [getD_left h1] at ho ⊢
      obtain ⟨m, a, b, c⟩ := h.1 k h1 ho
      exact ⟨m, by omega, b, c⟩
    · have : k = L.length := by simp at hk; omega
      subst this; rw [getD_last]; exact ⟨i, by omega, hi, rfl⟩
  · have h1 : k < L.length := by simp at hq; omega
    rw [getD_left h1] at hk1 ⊢
    rcases Nat.lt_or_ge q L.length with h2 | h2
    · rw [getD_left h2] at hq1 ⊢; exact h.2.1 k q hkq h2 hk1 hq1
    · have : q = L.length := by simp at hq; omega
      subst this; rw [getD_last] at hq1 ⊢
      obtain ⟨m, a, b, c⟩ := h.1 k h1 hk1
      rw [c]; exact hS m i a hi
  · rcases Nat.lt_or_ge k L.length with h1 | h1
    · rw [getD_left h1]; exact h.2.2 k h1
    · have : k = L.length := by simp at hk; omega
      subst this; rw [getD_last]; exact hmem
theorem isW_notown {t : Tok} {x : List UInt8} (h : isW t x = true) : t.k ≠ 111 := by
  unfold isW at h; simp at h; omega
theorem isW_in {ts : List Tok} {i : Nat} {x : List UInt8} (h : isW (tokAt ts i) x = true) : tokAt ts i ∈ ts := (inside fun e => by rw [e] at h; exact absurd h (by rw [noTok_isW]; simp)).2
theorem joins_in {ts : List Tok} {i n : Nat} (h : joins n (tokAt ts i) = true) : tokAt ts i ∈ ts := (inside fun e => by rw [e] at h; exact absurd h (by rw [noTok_joins]; simp)).2
theorem joins_notown {t : Tok} {n : Nat} (h : joins n t = true) : t.k ≠ 111 := by
  unfold joins at h; simp at h; omega

theorem P_new {g tag : Nat} {ts : List Tok} {i x : Nat} {L : List Pt} {r : Rd} (h : P g tag ts i L x = some r) (ok : r.ok = true) (ht : tag ≤ 6) : ∃ new, r.L = L ++ new :=
  (P_kept g tag ts i L x L.length r h ok (Nat.le_refl _) (fun k h1 h2 => by omega) (by omega) (.inl ht)).more

theorem P_tree {ts : List Tok} (hS : Sorted ts) (f : Nat) : ∀ (tag i : Nat) (L : List Pt) (x lo : Nat) (r : Rd), P f tag ts i L x = some r → r.ok = true → (tag ≤ 6 ∨ tag = 10 ∨ tag = 11 ∨ tag = 13 ∨ tag = 14) → OwnUp ts L i → (tag < 10 → lo = L.length) → (10 ≤ tag → x + 1 = L.length ∧ Tree L lo x) →
    r.top + 1 = r.L.length ∧ Tree r.L lo r.top ∧ OwnUp ts r.L r.i := by
  induction f with
  | zero => intro tag i L x lo r h; rw [P] at h; simp at h
  | succ f ih =>
    intro tag i L x lo r h ok ht hO hlo hx
    by_cases h6 : tag = 6
    · subst h6
      have hlo := hlo (by omega)
      by_cases hw : isW (tokAt ts i) wIf = true
      · obtain ⟨ra, rb, rc, hPa, hNb, hNc, hrc, hri, hrp⟩ := if_split h hw
        rw [hrc] at ok
        obtain ⟨oka, okb, rfl⟩ := hrp ok
        have fa := (P_fwd f 6 ts (i + 1) L 0 ra hPa oka (by omega)).1
        obtain ⟨a1, a2, a3⟩ := ih 6 (i + 1) L 0 lo ra hPa oka (by omega) (hO.mono (by omega)) (fun _ => hlo) (by omega)
        unfold Nx at hNb hNc
        have hwb : isW (tokAt ts ra.i) wThen = true := by
          cases e : isW (tokAt ts ra.i) wThen with
          | true => rfl
          | false => rw [if_neg (by simp [e])] at hNb; rw [hNb.1] at okb; simp at okb
        have hwc : isW (tokAt ts rb.i) wElse = true := by
          cases e : isW (tokAt ts rb.i) wElse with
          | true => rfl
          | false => rw [if_neg (by simp [e])] at hNc; rw [hNc.1] at ok; simp at ok
        rw [if_pos ⟨oka, hwb⟩] at hNb
        rw [if_pos ⟨okb, hwc⟩] at hNc
        have hmb := P_new hNb okb (by omega)
        have hmc := P_new hNc ok (by omega)
        obtain ⟨b1, b2, b3⟩ := ih 6 (ra.i + 1) ra.L 0 ra.L.length rb hNb okb (by omega) (a3.mono (by omega)) (fun _ => rfl) (by omega)
        obtain ⟨c1, c2, c3⟩ := ih 6 (rb.i + 1) rb.L 0 rb.L.length rc hNc ok (by omega) (b3.mono (by omega)) (fun _ => rfl) (by omega)
        refine ⟨by simp [put], ?_, ?_⟩
        · rw [← a1] at b2; rw [← b1] at c2
          exact Tree.put3 (.inr (.inr (.inl ⟨hw, rfl⟩))) rfl ((a2.more hmb).more hmc) (b2.more hmc) c2 c1
        · exact c3.other _ (isW_notown hw) (isW_in hw)
      · exact ih 0 i L 0 lo r (if_not h hw) ok (by omega) hO (fun _ => hlo) (by omega)
    · by_cases h5 : tag = 5
      · subst h5
        have hlo := hlo (by omega)
        by_cases hw : isW (tokAt ts i) [40] = true
        · obtain ⟨ra, hPa, hr⟩ := one_open h hw
          rcases hr with ⟨oka, hwa, rfl⟩ | ⟨_, hr, _⟩
          · obtain ⟨a1, a2, a3⟩ := ih 6 (i + 1) L 0 lo ra hPa oka (by omega) (hO.mono (by omega)) (fun _ => hlo) (by omega)
            exact ⟨a1, a2, a3.mono (by simp)⟩
          · rw [hr] at ok; simp at ok
        · rcases one_alone h hw with ⟨ha, rfl⟩ | ⟨_, rfl⟩
          · exact ⟨by simp, by rw [hlo]; exact Tree.put (f := 0) (.inl ⟨ha, rfl⟩) rfl, hO.next hS ha⟩
          · simp at ok
      · by_cases h2 : tag = 2
        · subst h2
          have hlo := hlo (by omega)
          by_cases hw : isW (tokAt ts i) wNot = true
          · obtain ⟨ra, hPa, hra, hri, hrp⟩ := not_yes h hw
            rw [hra] at ok
            have hrp := hrp ok
            subst hrp
            obtain ⟨a1, a2, a3⟩ := ih 2 (i + 1) L 0 lo ra hPa ok (by omega) (hO.mono (by omega)) (fun _ => hlo) (by omega)
            exact ⟨by simp [put], Tree.put1 (.inr (.inl ⟨hw, rfl⟩)) rfl a2 a1, a3.other _ (isW_notown hw) (isW_in hw)⟩
          · exact ih 3 i L 0 lo r (not_no h hw) ok (by omega) hO (fun _ => hlo) (by omega)
        · by_cases h10 : tag < 10
          · have hn : isChain tag := by unfold isChain; omega
            have hlo := hlo h10
            obtain ⟨ra, hPa, hr⟩ := chain_split hn h
            rcases hr with ⟨oka, hr⟩ | ⟨no, rfl⟩
            · unfold isChain at hn
              obtain ⟨a1, a2, a3⟩ := ih (tag + 1) i L 0 lo ra hPa oka (by omega) hO (fun _ => hlo) (by omega)
              exact ih (10 + tag) ra.i ra.L ra.top lo r hr ok (by omega) a3 (by omega) (fun _ => ⟨a1, a2⟩)
            · rw [no] at ok; simp at ok
          · obtain ⟨n, rfl⟩ : ∃ n, tag = 10 + n := ⟨tag - 10, by omega⟩
            have hn : isChain n := by unfold isChain; omega
            have hn' := hn
            unfold isChain at hn'
            obtain ⟨x1, x2⟩ := hx (by omega)
            cases hj : joins n (tokAt ts i) with
            | false =>
              have := loop_no hn h hj
              subst this
              exact ⟨x1, x2, hO⟩
            | true =>
              obtain ⟨rb, hPb, hr⟩ := loop_yes hn h hj
              rcases hr with ⟨no, rfl⟩ | ⟨okb, hr⟩
              · rw [no] at ok; simp at ok
              · have hmb := P_new hPb okb (by omega)
                obtain ⟨b1, b2, b3⟩ := ih (n + 1) (i + 1) L 0 L.length rb hPb okb (by omega) (hO.mono (by omega)) (fun _ => rfl) (by omega)
                rw [← x1] at b2
                have hT : Tree (rb.L ++ [⟨tokAt ts i, [x, rb.top]⟩]) lo rb.L.length := Tree.put2 (.inr (.inr (.inr ⟨n, hn, hj, rfl⟩))) rfl (x2.more hmb) b2 b1
                have hO2 : OwnUp ts (rb.L ++ [⟨tokAt ts i, [x, rb.top]⟩]) rb.i := b3.other _ (joins_notown hj) (joins_in hj)
                rcases hr with ⟨h3, rfl⟩ | ⟨h3, hr⟩
                · exact ⟨by simp [put], hT, hO2⟩
                · exact ih (10 + n) rb.i _ _ lo r hr ok (by omega) hO2 (by omega) (fun _ => ⟨by simp, hT⟩)
end Go.Proofs.YtfkdailfcmnjlaaGreatDoor

namespace Go.Proofs.YtfkdailfcmnjlaaGreatDoor

def sumOf (F : Nat → Nat) : List Nat → Nat
  | [] => 0
  | j :: js => F j + sumOf F js
/-- How many parts a tree has. -/
def cnt : Nat → List Pt → Nat → Nat
  | 0, _, _ => 1
  | f + 1, L, i => 1 + sumOf (cnt f L) (L.getD i noPt).subs

theorem forest_le {T : Nat → Nat → Prop} (hT : ∀ lo j, T lo j → lo ≤ j) (js : List Nat) : ∀ {lo hi}, Forest T lo js hi → lo ≤ hi := by
  induction js with
  | nil => intro lo hi h; exact Nat.le_of_eq h
  | cons j js ih => intro lo hi h; have := hT _ _ h.1; have := ih h.2; omega
theorem TreeF.le {f : Nat} : ∀ {L : List Pt} {lo i : Nat}, TreeF f L lo i → lo ≤ i := by
  induction f with
  | zero => intro L lo i h; exact h.elim
  | succ f ih => intro L lo i h; exact forest_le (fun lo j hj => ih hj) _ h.2.2
theorem forest_cnt {T : Nat → Nat → Prop} {F : Nat → Nat} (hT : ∀ lo j, T lo j → lo ≤ j ∧ F j = j + 1 - lo) (js : List Nat) : ∀ {lo hi}, Forest T lo js hi → sumOf F js = hi - lo := by
  induction js with
  | nil => intro lo hi h; have : lo = hi := h; subst this; simp [sumOf]
  | cons j js ih =>
    intro lo hi h
    have h1 := hT _ _ h.1
    have h2 := ih h.2
    have h3 := forest_le (fun lo j hj => (hT lo j hj).1) js h.2
    rw [sumOf, h2, h1.2]; omega
theorem TreeF.cnt {f : Nat} : ∀ {L : List Pt} {lo i : Nat}, TreeF f L lo i → cnt f L i = i + 1 - lo := by
  induction f with
  | zero => intro L lo i h; exact h.elim
  | succ f ih =>
    intro L lo i h
    have h0 := TreeF.le h
    have := forest_cnt (T := TreeF f L) (F := Go.Proofs.YtfkdailfcmnjlaaGreatDoor.cnt f L) (fun lo j hj => ⟨hj.le, ih hj⟩) _ h.2.2
    rw [Go.Proofs.YtfkdailfcmnjlaaGreatDoor.cnt, this]; omega
theorem foldMax_congr {F G : Nat → Nat} {l : List Nat} (h : ∀ j ∈ l, F j = G j) : foldMax F l = foldMax G l := by
  have : ∀ (l : List Nat) (m : Nat), (∀ j ∈ l, F j = G j) → l.foldl (fun m j => max m (F j)) m = l.foldl (fun m j => max m (G j)) m := by
    intro l
    induction l with
    | nil => intro m _; rfl
    | cons x l ih => intro m hl; rw [List.foldl_cons, List.foldl_cons, hl x (by simp)]; exact ih _ fun j hj => hl j (by simp [hj])
  exact this l 0 h
theorem forest_mem {T : Nat → Nat → Prop} (js : List Nat) : ∀ {lo hi}, Forest T lo js hi → ∀ j ∈ js, ∃ lo', T lo' j := by
  induction js with
  | nil => intro lo hi _ j hj; simp at hj
  | cons x js ih =>
    intro lo hi h j hj
    simp at hj
    rcases hj with rfl | hj
    · exact ⟨lo, h.1⟩
    · exact ih h.2 j hj
/-- The depth does not hang on the bound, if the bound is above the tree's. -/
theorem TreeF.dep {f : Nat} : ∀ {g : Nat} {L : List Pt} {lo i : Nat}, TreeF f L lo i → f ≤ g → dep g L i = dep f L i := by
  induction f with
  | zero => intro g L lo i h; exact h.elim
  | succ f ih =>
    intro g L lo i h hg
    obtain ⟨g, rfl⟩ : ∃ g', g = g' + 1 := ⟨g - 1, by omega⟩
    rw [Go.Proofs.YtfkdailfcmnjlaaGreatDoor.dep, Go.Proofs.YtfkdailfcmnjlaaGreatDoor.dep]
    rw [foldMax_congr fun j hj => ?_]
    obtain ⟨lo', hT⟩ := forest_mem _ h.2.2 j hj
    exact ih hT (by omega)
/-- A tree's bound can be its place. -/
theorem forest_down {T T' : Nat → Nat → Prop} (js : List Nat) : ∀ {lo hi}, (∀ lo j, T lo j → lo ≤ j) → (∀ lo j, j < hi → T lo j → T' lo j) → Forest T lo js hi → Forest T' lo js hi := by
  induction js with
  | nil => intro lo hi _ _ h; exact h
  | cons j js ih =>
    intro lo hi hl hT h
    have := forest_le hl js h.2
    exact ⟨hT _ _ (by omega) h.1, ih hl hT h.2⟩
theorem TreeF.fit {f : Nat} : ∀ {L : List Pt} {lo i : Nat}, TreeF f L lo i → TreeF (i + 1) L lo i := by
  induction f with
  | zero => intro L lo i h; exact h.elim
  | succ f ih =>
    intro L lo i h
    exact ⟨h.1, h.2.1, forest_down _ (fun lo j hj => hj.le) (fun lo j hj hT => (ih hT).upto (by omega)) h.2.2⟩
theorem Tree.fit {L : List Pt} {lo i : Nat} (h : Tree L lo i) : TreeF (i + 1) L lo i := by
  obtain ⟨f, h⟩ := h; exact h.fit

/-- The first answer of some. -/
def firstOf (F : Nat → Option Nat) : List Nat → Option Nat
  | [] => none
  | j :: js => match F j with
    | some p => some p
    | none => firstOf F js
/-- The place of the first wrong own name of a tree, from left to right. -/
def resF (bad : Tok → Bool) : Nat → List Pt → Nat → Option Nat
  | 0, _, _ => none
  | f + 1, L, i => if (L.getD i noPt).tok.k = 111 then (if bad (L.getD i noPt).tok then some (L.getD i noPt).tok.pl else none) else firstOf (resF bad f L) (L.getD i noPt).subs

theorem wrongAt_split (xs : List Itm) (L : List Pt) (n a : Nat) : ∀ (b k : Nat) (o : Option Nat), wrongAt xs L n (a + b) k o = wrongAt xs L n b (k + a) (wrongAt xs L n a k o) := by
  induction a with
  | zero => intro b k o; simp [wrongAt]
  | succ a ih =>
    intro b k o
    rw [show a + 1 + b = (a + b) + 1 from by omega, wrongAt, wrongAt, ih, show k + 1 + a = k + (a + 1) from by omega]
theorem wrongAt_stay (xs : List Itm) (L : List Pt) (n p c : Nat) : ∀ (k : Nat), (∀ q, k ≤ q → q < k + c → (L.getD q noPt).tok.k = 111 → p ≤ (L.getD q noPt).tok.pl) → wrongAt xs L n c k (some p) = some p := by
  induction c with
  | zero => intro k _; rfl
  | succ c ih =>
    intro k h
    rw [wrongAt]
    have e : wrongStep xs n (L.getD k noPt).tok (some p) = some p := by
      unfold wrongStep
      split
      · rename_i hc
        have := h k (Nat.le_refl _) (by omega) hc.1
        simp only [better]; rw [if_neg (by omega)]
      · rfl
    rw [e]
    exact ih (k + 1) fun q h1 h2 => h q (by omega) (by omega)

def badOf (xs : List Itm) (n : Nat) (t : Tok) : Bool := decide (letIx xs t.text n < 0)

theorem forest_res {xs : List Itm} {L : List Pt} {n : Nat} {T : Nat → Nat → Prop} {F : Nat → Option Nat}
    (hup : ∀ k q, k < q → q < L.length → (L.getD k noPt).tok.k = 111 → (L.getD q noPt).tok.k = 111 → (L.getD k noPt).tok.pl < (L.getD q noPt).tok.pl)
    (hT : ∀ lo j, T lo j → lo ≤ j ∧ wrongAt xs L n (j + 1 - lo) lo none = F j ∧ ∀ p, F j = some p → ∃ q, lo ≤ q ∧ q ≤ j ∧ (L.getD q noPt).tok.k = 111 ∧ (L.getD q noPt).tok.pl = p)
    (js : List Nat) : ∀ {lo hi}, hi ≤ L.length → Forest T lo js hi → wrongAt xs L n (hi - lo) lo none = firstOf F js ∧ ∀ p, firstOf F js = some p → ∃ q, lo ≤ q ∧ q < hi ∧ (L.getD q noPt).tok.k = 111 ∧ (L.getD q noPt).tok.pl = p := by
  induction js with
  | nil => intro lo hi _ h; have : lo = hi := h; subst this; simp [firstOf, wrongAt]
  | cons j js ih =>
    intro lo hi hh h
    obtain ⟨h1, h2, h3⟩ := hT _ _ h.1
    have h4 := forest_le (fun lo j hj => (hT lo j hj).1) js h.2
    obtain ⟨i1, i2⟩ := ih hh h.2
    rw [show hi - lo = (j + 1 - lo) + (hi - (j + 1)) from by omega, wrongAt_split, h2, show lo + (j + 1 - lo) = j + 1 from by omega, firstOf]
    cases hF : F j with
    | none =>
      refine ⟨i1, fun p hp => ?_⟩
      obtain ⟨q, a, b, c⟩ := i2 p hp
      exact ⟨q, by omega, b, c⟩
    | some p =>
      obtain ⟨q, a, b, c, d⟩ := h3 p hF
      refine ⟨wrongAt_stay xs L n p _ _ fun r hr1 hr2 ho => ?_, fun p' hp => ?_⟩
      · have := hup q r (by omega) (by omega) c ho
        omega
      · simp at hp; subst hp; exact ⟨q, a, by omega, c, d⟩

theorem shape_leaf {p : Pt} (h : Shape p) (ho : p.tok.k = 111) : p.subs = [] := by
  rcases h with ⟨_, h⟩ | ⟨h, _⟩ | ⟨h, _⟩ | ⟨n, _, h, _⟩
  · exact h
  · exact absurd ho (isW_notown h)
  · exact absurd ho (isW_notown h)
  · exact absurd ho (joins_notown h)

theorem TreeF.res {xs : List Itm} {n : Nat} {f : Nat} : ∀ {L : List Pt} {lo i : Nat}, (∀ k q, k < q → q < L.length → (L.getD k noPt).tok.k = 111 → (L.getD q noPt).tok.k = 111 → (L.getD k noPt).tok.pl < (L.getD q noPt).tok.pl) → TreeF f L lo i →
    wrongAt xs L n (i + 1 - lo) lo none = resF (badOf xs n) f L i ∧ ∀ p, resF (badOf xs n) f L i = some p → ∃ q, lo ≤ q ∧ q ≤ i ∧ (L.getD q noPt).tok.k = 111 ∧ (L.getD q noPt).tok.pl = p := by
  induction f with
  | zero => intro L lo i _ h; exact h.elim
  | succ f ih =>
    intro L lo i hup h
    have hle := h.le
    obtain ⟨g1, g2⟩ := forest_res (xs := xs) (n := n) hup (T := TreeF f L) (F := resF (badOf xs n) f L) (fun lo j hj => ⟨hj.le, ih hup hj⟩) _ (by have := h.1; omega) h.2.2
    rw [show i + 1 - lo = (i - lo) + 1 from by omega, wrongAt_split, g1, show lo + (i - lo) = i from by omega, wrongAt, wrongAt, resF]
    by_cases ho : (L.getD i noPt).tok.k = 111
    · rw [if_pos ho, shape_leaf h.2.1 ho, firstOf]
      unfold wrongStep badOf
      by_cases hb : letIx xs (L.getD i noPt).tok.text n < 0
      · rw [if_pos ⟨ho, hb⟩, decide_eq_true hb, if_pos rfl]
        refine ⟨rfl, fun p hp => ?_⟩
        simp at hp; exact ⟨i, hle, Nat.le_refl _, ho, hp⟩
      · rw [if_neg (fun e => hb e.2), decide_eq_false hb]
        exact ⟨rfl, fun p hp => by simp at hp⟩
    · rw [if_neg ho]
      unfold wrongStep
      rw [if_neg (fun e => ho e.1)]
      refine ⟨rfl, fun p hp => ?_⟩
      obtain ⟨q, a, b, c⟩ := g2 p hp
      exact ⟨q, a, by omega, c⟩
end Go.Proofs.YtfkdailfcmnjlaaGreatDoor

namespace Go.Proofs.YtfkdailfcmnjlaaGreatDoor

/-- The names that lets give. -/
def giv : List Itm → List (List UInt8)
  | [] => []
  | x :: r => if x.name = [] then giv r else x.name :: giv r
theorem giv_snoc (xs : List Itm) (x : Itm) : giv (xs ++ [x]) = if x.name = [] then giv xs else giv xs ++ [x.name] := by
  induction xs with
  | nil => simp [giv]
  | cons y r ih =>
    simp only [List.cons_append, giv, ih]
    split <;> split <;> simp
theorem giv_len (xs : List Itm) : (giv xs).length ≤ xs.length := by
  induction xs with
  | nil => simp [giv]
  | cons y r ih => rw [giv]; split <;> simp <;> omega
theorem giv_ix (s : List UInt8) (hs : s ≠ []) (xs : List Itm) : ∀ k, idx (giv (xs.take k)) s < 0 ↔ letIx xs s k < 0 := by
  induction xs with
  | nil => intro k; simp [giv, idx, letIx]
  | cons x r ih =>
    intro k
    cases k with
    | zero => simp [giv, idx, letIx]
    | succ k =>
      have := ih k
      rw [List.take_succ_cons, giv, letIx]
      by_cases hx : x.name = []
      · rw [if_pos hx, hx, if_neg (by simpa using hs)]
        by_cases h0 : letIx r s k < 0
        · rw [if_pos h0]; exact ⟨fun _ => by decide, fun _ => this.2 h0⟩
        · rw [if_neg h0]; constructor
          · intro h; exact absurd (this.1 h) h0
          · intro h; omega
      · rw [if_neg hx, idx]
        by_cases he : (x.name == s) = true
        · rw [if_pos he, if_pos he]
        · rw [if_neg he, if_neg he]
          by_cases h0 : letIx r s k < 0
          · rw [if_pos h0, if_pos (this.2 h0)]
          · rw [if_neg h0, if_neg (fun h => h0 (this.1 h))]
            have h1 : ¬ idx (giv (r.take k)) s < 0 := fun h => h0 (this.1 h)
            omega
/-- A type as the program numbers it. -/
def tcode (c : UInt8) : Nat := if c.toNat = 110 then 1 else if c.toNat = 116 then 2 else if c.toNat = 109 then 3 else 0
/-- The types of the lets among items. -/
def letTys : List Itm → List UInt8 → List Nat
  | x :: r, t :: ts => if x.name = [] then letTys r ts else tcode t :: letTys r ts
  | _, _ => []
theorem letTys_snoc (xs : List Itm) (x : Itm) (t : UInt8) : ∀ (its : List UInt8), its.length = xs.length → letTys (xs ++ [x]) (its ++ [t]) = if x.name = [] then letTys xs its else letTys xs its ++ [tcode t] := by
  induction xs with
  | nil => intro its h; obtain rfl : its = [] := by simpa using h
           simp [letTys]
  | cons y r ih =>
    intro its h
    cases its with
    | nil => simp at h
    | cons u its =>
      have := ih its (by simpa using h)
      simp only [List.cons_append, letTys, this]
      split <;> split <;> simp
theorem letTys_len (xs : List Itm) : ∀ (its : List UInt8), its.length = xs.length → (letTys xs its).length = (giv xs).length := by
  induction xs with
  | nil => intro its h; simp [letTys, giv]
  | cons y r ih =>
    intro its h
    cases its with
    | nil => simp at h
    | cons u its =>
      have := ih its (by simpa using h)
      rw [letTys, giv]; split <;> simp [this]
theorem letTys_at (s : List UInt8) (hs : s ≠ []) (xs : List Itm) : ∀ (its : List UInt8), its.length ≤ xs.length → 0 ≤ letIx xs s its.length → (letTys (xs.take its.length) its).getD (idx (giv (xs.take its.length)) s).toNat 0 = tcode (its.getD (letIx xs s its.length).toNat 0) := by
  induction xs with
  | nil => intro its h h0; simp [letIx] at h0
  | cons x r ih =>
    intro its h h0
    cases its with
    | nil => simp [letIx] at h0
    | cons u its =>
      rw [List.length_cons] at *
      rw [letIx] at h0 ⊢
      rw [List.take_succ_cons, letTys, giv]
      by_cases hx : x.name = []
      · have he : ¬ (x.name == s) = true := by rw [hx]; simpa using hs
        rw [if_neg he] at h0 ⊢
        rw [if_pos hx, if_pos hx]
        by_cases h1 : letIx r s its.length < 0
        · rw [if_pos h1] at h0; omega
        · rw [if_neg h1]
          rw [ih its (by simpa using h) (by omega), show (letIx r s its.length + 1).toNat = (letIx r s its.length).toNat + 1 from by omega, List.getD_cons_succ]
      · rw [if_neg hx, if_neg hx, idx]
        by_cases he : (x.name == s) = true
        · rw [if_pos he, if_pos he]; rfl
        · rw [if_neg he] at h0 ⊢
          rw [if_neg he]
          by_cases h1 : letIx r s its.length < 0
          · rw [if_pos h1] at h0; omega
          · have h2 : ¬ idx (giv (r.take its.length)) s < 0 := fun h => h1 ((giv_ix s hs r _).1 h)
            rw [if_neg h1, if_neg h2, show (letIx r s its.length + 1).toNat = (letIx r s its.length).toNat + 1 from by omega, show (idx (giv (r.take its.length)) s + 1).toNat = (idx (giv (r.take its.length)) s).toNat + 1 from by omega, List.getD_cons_succ, List.getD_cons_succ]
            exact ih its (by simpa using h) (by omega)
/-- The place among the names does not turn as more are given. -/
theorem idx_append {l m : List (List UInt8)} {s : List UInt8} (h : 0 ≤ idx l s) : idx (l ++ m) s = idx l s := by
  induction l with
  | nil => simp [idx] at h
  | cons x r ih =>
    rw [List.cons_append, idx, idx] at *
    by_cases he : (x == s) = true
    · rw [if_pos he, if_pos he]
    · rw [if_neg he] at h ⊢
      rw [if_neg he]
      by_cases h1 : idx r s < 0
      · rw [if_pos h1] at h; omega
      · rw [ih (by omega)]
theorem giv_more (xs : List Itm) (k : Nat) : ∃ m, giv xs = giv (xs.take k) ++ m := by
  induction xs generalizing k with
  | nil => exact ⟨[], by simp [giv]⟩
  | cons x r ih =>
    cases k with
    | zero => exact ⟨_, by simp [giv]; rfl⟩
    | succ k =>
      obtain ⟨m, hm⟩ := ih k
      refine ⟨m, ?_⟩
      rw [List.take_succ_cons, giv, giv, hm]
      split <;> simp
end Go.Proofs.YtfkdailfcmnjlaaGreatDoor

namespace Go.Proofs.YtfkdailfcmnjlaaGreatDoor

theorem wrongAt_fine {xs : List Itm} {L : List Pt} {i : Nat} (c : Nat) : ∀ (k : Nat) (o : Option Nat), wrongAt xs L i c k o = none → o = none ∧ ∀ q, k ≤ q → q < k + c → (L.getD q noPt).tok.k = 111 → 0 ≤ letIx xs (L.getD q noPt).tok.text i := by
  induction c with
  | zero => intro k o h; exact ⟨h, fun q h1 h2 => by omega⟩
  | succ c ih =>
    intro k o h
    rw [wrongAt] at h
    obtain ⟨h1, h2⟩ := ih _ _ h
    unfold wrongStep at h1
    by_cases hc : (L.getD k noPt).tok.k = 111 ∧ letIx xs (L.getD k noPt).tok.text i < 0
    · rw [if_pos hc] at h1
      exfalso
      cases o with
      | none => simp [better] at h1
      | some p =>
        have hbt : ∀ m, better m (some p) ≠ none := fun m => by simp only [better]; split <;> simp
        exact hbt _ h1
    · rw [if_neg hc] at h1
      refine ⟨h1, fun q hq1 hq2 hq3 => ?_⟩
      by_cases e : q = k
      · subst e
        by_cases hl : letIx xs (L.getD q noPt).tok.text i < 0
        · exact absurd ⟨hq3, hl⟩ hc
        · omega
      · exact h2 q (by omega) (by omega) hq3
theorem firstOf_congr {F G : Nat → Option Nat} {js : List Nat} (h : ∀ j ∈ js, F j = G j) : firstOf F js = firstOf G js := by
  induction js with
  | nil => rfl
  | cons x js ih => rw [firstOf, firstOf, h x (by simp), ih fun j hj => h j (by simp [hj])]
theorem resF_congr {bad bad' : Tok → Bool} {L : List Pt} (hb : ∀ k, k < L.length → (L.getD k noPt).tok.k = 111 → bad (L.getD k noPt).tok = bad' (L.getD k noPt).tok) (f : Nat) : ∀ {lo i : Nat}, TreeF f L lo i → resF bad f L i = resF bad' f L i := by
  induction f with
  | zero => intro lo i h; exact h.elim
  | succ f ih =>
    intro lo i h
    rw [resF, resF]
    by_cases ho : (L.getD i noPt).tok.k = 111
    · rw [if_pos ho, if_pos ho, hb i h.1 ho]
    · rw [if_neg ho, if_neg ho]
      exact firstOf_congr fun j hj => by
        obtain ⟨lo', hT⟩ := forest_mem _ h.2.2 j hj
        exact ih hT
/-- The items' trees stand one behind the other. -/
def TreesAt (L : List Pt) : List Itm → Nat → Prop
  | [], fr => fr = L.length
  | x :: r, fr => Tree L fr x.top ∧ x.top + 1 = x.parts ∧ TreesAt L r x.parts
/-- What is known of the parts of a text that was read. -/
structure PartsOK (L : List Pt) : Prop where
  up : ∀ k q, k < q → q < L.length → (L.getD k noPt).tok.k = 111 → (L.getD q noPt).tok.k = 111 → (L.getD k noPt).tok.pl < (L.getD q noPt).tok.pl
  own : ∀ k, k < L.length → (L.getD k noPt).tok.k = 111 → (L.getD k noPt).tok.text ≠ []
  few : L.length ≤ 5000
/-- One item's names. -/
theorem names_item {xs : List Itm} {L : List Pt} (hL : PartsOK L) {x : Itm} {r : List Itm} {fr i : Nat} (hT : Tree L fr x.top) (hp : x.top + 1 = x.parts) :
    namesAt xs L (x :: r) fr i = if x.name ≠ [] ∧ 0 ≤ idx (giv (xs.take i)) x.name then some x.named else (resF (badOf xs i) (x.top + 1) L x.top).or (namesAt xs L r x.parts (i + 1)) := by
  have h1 := (TreeF.res (xs := xs) (n := i) hL.up hT.fit).1
  rw [namesAt, ← hp, h1]
  by_cases hn : x.name = []
  · rw [if_neg (fun e => e.1 hn), if_neg (fun e => e.1 hn)]
  · have h2 := giv_ix x.name hn xs i
    by_cases h0 : letIx xs x.name i < 0
    · rw [if_neg (fun e => by have := e.2; omega), if_neg (fun e => by have := h2.2 h0; have := e.2; omega)]
    · rw [if_pos ⟨hn, by omega⟩, if_pos ⟨hn, by
        have : ¬ idx (giv (xs.take i)) x.name < 0 := fun h => h0 (h2.1 h)
        omega⟩]
theorem giv_keep {xs : List Itm} (i : Nat) {s : List UInt8} (h : 0 ≤ idx (giv (xs.take i)) s) : idx (giv xs) s = idx (giv (xs.take i)) s := by
  obtain ⟨m, hm⟩ := giv_more xs i
  rw [hm]; exact idx_append h
end Go.Proofs.YtfkdailfcmnjlaaGreatDoor

namespace Go.Proofs.YtfkdailfcmnjlaaGreatDoor

/-- A number's digits; the first number bounds them. -/
def tensF : Nat → Nat → List UInt8
  | 0, _ => []
  | f + 1, n => if n < 10 then [UInt8.ofNat (48 + n)] else tensF f (n / 10) ++ [UInt8.ofNat (48 + n % 10)]
def tensL (n : Nat) : List UInt8 := tensF 20 n
theorem tensF_len (f n : Nat) : (tensF f n).length ≤ f := by
  induction f generalizing n with
  | zero => simp [tensF]
  | succ f ih =>
    rw [tensF]; split
    · simp
    · have := ih (n / 10); simp; omega
def wsNot : List UInt8 := [40, 110, 111, 116, 32]
def wsIf : List UInt8 := [40, 105, 102, 32]
def wsThen : List UInt8 := [32, 116, 104, 101, 110, 32]
def wsElse : List UInt8 := [32, 101, 108, 115, 101, 32]
def wsLet : List UInt8 := [108, 101, 116, 32]
def wsEq : List UInt8 := [32, 61, 32]
def wsAllow : List UInt8 := [97, 108, 108, 111, 119, 32, 105, 102, 32]
def wsDeny : List UInt8 := [100, 101, 110, 121, 32, 105, 102, 32]
/-- A part over some, as it is printed. -/
def overL (text : List UInt8) : List (List UInt8) → List UInt8
  | [] => text
  | [a] => wsNot ++ a ++ [41]
  | [a, b] => [40] ++ a ++ [32] ++ text ++ [32] ++ b ++ [41]
  | a :: b :: c :: _ => wsIf ++ a ++ wsThen ++ b ++ wsElse ++ c ++ [41]
/-- A part as it is printed. -/
def plainF : Nat → List Pt → Nat → List UInt8
  | 0, _, _ => []
  | f + 1, L, i => if (L.getD i noPt).tok.k = 110 then tensL (decVal (L.getD i noPt).tok.text) else overL (L.getD i noPt).tok.text ((L.getD i noPt).subs.map (plainF f L))
def headL (x : Itm) : List UInt8 := if x.name = [] then (if x.allow then wsAllow else wsDeny) else wsLet ++ x.name ++ wsEq
def itemL (L : List Pt) (x : Itm) : List UInt8 := headL x ++ plainF (x.top + 1) L x.top ++ [59, 10]
/-- A policy as it is printed. -/
def printL (L : List Pt) (xs : List Itm) : List UInt8 := xs.flatMap (itemL L)

theorem forest_len {T : Nat → Nat → Prop} {F : Nat → List UInt8} {c : Nat} (hT : ∀ lo j, T lo j → lo ≤ j ∧ (F j).length ≤ c * (j + 1 - lo)) (js : List Nat) : ∀ {lo hi}, Forest T lo js hi → (js.map F).flatten.length ≤ c * (hi - lo) := by
  induction js with
  | nil => intro lo hi _; simp
  | cons j js ih =>
    intro lo hi h
    obtain ⟨h1, h2⟩ := hT _ _ h.1
    have h3 := ih h.2
    have h4 := forest_le (fun lo j hj => (hT lo j hj).1) js h.2
    have e : c * (hi - lo) = c * (j + 1 - lo) + c * (hi - (j + 1)) := by rw [← Nat.mul_add]; congr 1; omega
    simp only [List.map_cons, List.flatten_cons, List.length_append]
    rw [e]; omega
theorem over_len (text : List UInt8) (ss : List (List UInt8)) : (overL text ss).length ≤ text.length + ss.flatten.length + 17 := by
  match ss with
  | [] => simp [overL]
  | [a] => simp [overL, wsNot]; omega
  | [a, b] => simp [overL]; omega
  | a :: b :: c :: r => simp [overL, wsIf, wsThen, wsElse]; omega
theorem TreeF.plain_len {f : Nat} : ∀ {L : List Pt} {lo i : Nat}, (∀ k, k < L.length → (L.getD k noPt).tok.text.length ≤ 1000) → TreeF f L lo i → (plainF f L i).length ≤ 1100 * (i + 1 - lo) := by
  induction f with
  | zero => intro L lo i _ h; exact h.elim
  | succ f ih =>
    intro L lo i hl h
    have hle := h.le
    have h1 := forest_len (T := TreeF f L) (F := plainF f L) (c := 1100) (fun lo j hj => ⟨hj.le, ih hl hj⟩) _ h.2.2
    have h2 := over_len (L.getD i noPt).tok.text ((L.getD i noPt).subs.map (plainF f L))
    have h3 := hl i h.1
    have h4 := tensF_len 20 (decVal (L.getD i noPt).tok.text)
    have e : 1100 * (i + 1 - lo) = 1100 * (i - lo) + 1100 := by omega
    rw [plainF, e]
    split
    · unfold tensL; omega
    · omega
end Go.Proofs.YtfkdailfcmnjlaaGreatDoor

namespace Go.Proofs.YtfkdailfcmnjlaaGreatDoor
set_option maxRecDepth 100000

/-- A condition as it is meant: a word's kind and text, what stands under it. -/
structure Sy where
  k : Nat
  text : List UInt8
  kids : List Sy
def noSy : Sy := ⟨0, [], []⟩
/-- A word's kind and text. -/
def wd (t : Tok) : Nat × List UInt8 := (t.k, t.text)
/-- The words from a place on are these. -/
def Mt (ts : List Tok) : Nat → List (Nat × List UInt8) → Prop
  | _, [] => True
  | i, w :: r => wd (tokAt ts i) = w ∧ Mt ts (i + 1) r
theorem Mt.left {ts : List Tok} {a : List (Nat × List UInt8)} : ∀ {i : Nat} {b : List (Nat × List UInt8)}, Mt ts i (a ++ b) → Mt ts i a := by
  induction a with
  | nil => intro i b _; trivial
  | cons w a ih => intro i b h; exact ⟨h.1, ih h.2⟩
theorem Mt.right {ts : List Tok} {a : List (Nat × List UInt8)} : ∀ {i : Nat} {b : List (Nat × List UInt8)}, Mt ts i (a ++ b) → Mt ts (i + a.length) b := by
  induction a with
  | nil => intro i b h; exact h
  | cons w a ih =>
    intro i b h
    have := ih h.2
    rw [show i + (w :: a).length = i + 1 + a.length from by simp; omega]
    exact this
/-- The same word: of numbers, the same number. -/
def SameW (t : Tok) (s : Sy) : Prop := t.k = s.k ∧ (if s.k = 110 then decVal t.text = decVal s.text else t.text = s.text)
/-- The part at a place is this tree. -/
def IsSy : Nat → List Pt → Nat → Sy → Prop
  | 0, _, _, _ => False
  | d + 1, L, i, s => i < L.length ∧ SameW (L.getD i noPt).tok s ∧ (L.getD i noPt).subs.length = s.kids.length ∧ ∀ j, j < s.kids.length → IsSy d L ((L.getD i noPt).subs.getD j 0) (s.kids.getD j noSy)
theorem IsSy.more {d : Nat} : ∀ {L : List Pt} {i : Nat} {s : Sy}, IsSy d L i s → ∀ new, IsSy d (L ++ new) i s := by
  induction d with
  | zero => intro L i s h; exact h.elim
  | succ d ih =>
    intro L i s h new
    obtain ⟨h1, h2, h3, h4⟩ := h
    rw [← getD_left (M := new) h1] at h2 h3 h4
    exact ⟨by simp; omega, h2, h3, fun j hj => ih (h4 j hj) new⟩
theorem IsSy.up {d : Nat} : ∀ {L : List Pt} {i : Nat} {s : Sy}, IsSy d L i s → IsSy (d + 1) L i s := by
  induction d with
  | zero => intro L i s h; exact h.elim
  | succ d ih => intro L i s h; exact ⟨h.1, h.2.1, h.2.2.1, fun j hj => ih (h.2.2.2 j hj)⟩
/-- How many parts. -/
def cS : Nat → Sy → Nat
  | 0, _ => 0
  | d + 1, s => 1 + (s.kids.map (cS d)).sum
/-- What reading leaves. -/
structure Got (d i n : Nat) (L : List Pt) (s : Sy) (r : Rd) : Prop where
  ok : r.ok = true
  at_ : r.i = i + n
  new : ∃ new, r.L = L ++ new
  len : r.L.length = L.length + cS d s
  top : r.top + 1 = r.L.length
  is : IsSy d r.L r.top s
/-- A word that joins nothing at this level and those above it. -/
def NoJ (n : Nat) (t : Tok) : Prop := ∀ m, n ≤ m → isChain m → joins m t = false
theorem NoJ.up {n : Nat} {t : Tok} (h : NoJ n t) : NoJ (n + 1) t := fun m hm hc => h m (by omega) hc
/-- These words are read as this tree, at a level. -/
def RdS (d n : Nat) (ws : List (Nat × List UInt8)) (s : Sy) : Prop :=
  ∀ (ts : List Tok) (i : Nat) (L : List Pt) (x f : Nat) (r : Rd), Mt ts i ws → NoJ (if n = 6 then 0 else n) (tokAt ts (i + ws.length)) → P f n ts i L x = some r → Got d i ws.length L s r
def isWw (w : Nat × List UInt8) (x : List UInt8) : Bool := (w.1 == 107 || w.1 == 115) && w.2 == x
theorem isW_wd {t : Tok} {w : Nat × List UInt8} (h : wd t = w) (x : List UInt8) : isW t x = isWw w x := by subst h; rfl
/-- The first word is this one, not one that opens another form. -/
def Hd (ws : List (Nat × List UInt8)) : Prop := ∃ w r, ws = w :: r ∧ isWw w wNot = false ∧ isWw w wIf = false
theorem Hd.more {ws : List (Nat × List UInt8)} (h : Hd ws) (m : List (Nat × List UInt8)) : Hd (ws ++ m) := by
  obtain ⟨w, r, rfl, h⟩ := h
  exact ⟨w, r ++ m, rfl, h⟩
theorem P_zero {n : Nat} {ts : List Tok} {i x : Nat} {L : List Pt} {r : Rd} (h : P 0 n ts i L x = some r) : False := by rw [P] at h; cases h
theorem RdS.chain {d n : Nat} {ws : List (Nat × List UInt8)} {s : Sy} (hn : isChain n) (h : RdS d (n + 1) ws s) : RdS d n ws s := by
  intro ts i L x f r hm hj hP
  have h6 : n ≠ 6 := by unfold isChain at hn; omega
  have h5 : n + 1 ≠ 6 := by unfold isChain at hn; omega
  rw [if_neg h6] at hj
  cases f with
  | zero => exact (P_zero hP).elim
  | succ f =>
    obtain ⟨a, ha, hr⟩ := chain_split hn hP
    have g := h ts i L 0 f a hm (by rw [if_neg h5]; exact hj.up) ha
    rcases hr with ⟨_, hr⟩ | ⟨e, _⟩
    · cases f with
      | zero => exact (P_zero hr).elim
      | succ f =>
        have := loop_no hn hr (by rw [g.at_]; exact hj n (Nat.le_refl _) hn)
        subst this
        exact ⟨rfl, g.at_, g.new, g.len, g.top, g.is⟩
    · rw [g.ok] at e; cases e
theorem RdS.part {d : Nat} {ws : List (Nat × List UInt8)} {s : Sy} (hh : Hd ws) (h : RdS d 3 ws s) : RdS d 2 ws s := by
  intro ts i L x f r hm hj hP
  cases f with
  | zero => exact (P_zero hP).elim
  | succ f =>
    obtain ⟨w, q, rfl, h1, _⟩ := hh
    exact h ts i L 0 f r hm hj.up (not_no hP (by rw [isW_wd hm.1, h1]; simp))
theorem RdS.cond {d : Nat} {ws : List (Nat × List UInt8)} {s : Sy} (hh : ∃ w r, ws = w :: r ∧ isWw w wIf = false) (h : RdS d 0 ws s) : RdS d 6 ws s := by
  intro ts i L x f r hm hj hP
  cases f with
  | zero => exact (P_zero hP).elim
  | succ f =>
    obtain ⟨w, q, rfl, h1⟩ := hh
    exact h ts i L 0 f r hm hj (if_not hP (by rw [isW_wd hm.1, h1]; simp))
theorem Hd.if_ {ws : List (Nat × List UInt8)} (h : Hd ws) : ∃ w r, ws = w :: r ∧ isWw w wIf = false := by
  obtain ⟨w, r, e, _, h⟩ := h; exact ⟨w, r, e, h⟩
theorem RdS.to4 {d : Nat} {ws : List (Nat × List UInt8)} {s : Sy} (h : RdS d 5 ws s) : RdS d 4 ws s := h.chain (by simp [isChain])
theorem RdS.to3 {d : Nat} {ws : List (Nat × List UInt8)} {s : Sy} (h : RdS d 4 ws s) : RdS d 3 ws s := h.chain (by simp [isChain])
theorem RdS.to1 {d : Nat} {ws : List (Nat × List UInt8)} {s : Sy} (h : RdS d 2 ws s) : RdS d 1 ws s := h.chain (by simp [isChain])
theorem RdS.to0 {d : Nat} {ws : List (Nat × List UInt8)} {s : Sy} (h : RdS d 1 ws s) : RdS d 0 ws s := h.chain (by simp [isChain])
/-- From the innermost level to one further out. -/
theorem RdS.out {d n : Nat} {ws : List (Nat × List UInt8)} {s : Sy} (hh : Hd ws) (h : RdS d 5 ws s) (hn : n ≤ 6) : RdS d n ws s := by
  have h4 := h.to4
  have h3 := h4.to3
  have h2 := h3.part hh
  have h1 := h2.to1
  have h0 := h1.to0
  have h6 := h0.cond hh.if_
  match n, hn with
  | 0, _ => exact h0
  | 1, _ => exact h1
  | 2, _ => exact h2
  | 3, _ => exact h3
  | 4, _ => exact h4
  | 5, _ => exact h
  | 6, _ => exact h6
theorem RdS.from_ {d n : Nat} {ws : List (Nat × List UInt8)} {s : Sy} (hh : Hd ws) (hn : isChain n) (h : RdS d n ws s) : RdS d 6 ws s := by
  rcases hn with rfl | rfl | rfl | rfl
  · exact h.cond hh.if_
  · exact h.to0.cond hh.if_
  · exact (h.part hh).to1.to0.cond hh.if_
  · exact (h.to3.part hh).to1.to0.cond hh.if_
theorem RdS.up {d n : Nat} {ws : List (Nat × List UInt8)} {s : Sy} (hc : cS (d + 1) s = cS d s) (h : RdS d n ws s) : RdS (d + 1) n ws s := fun ts i L x f r hm hj hP => by
  have g := h ts i L x f r hm hj hP
  exact ⟨g.ok, g.at_, g.new, by rw [hc]; exact g.len, g.top, g.is.up⟩
theorem joins_wd {t : Tok} {w : Nat × List UInt8} (h : wd t = w) (n : Nat) : joins n t = joins n ⟨w.1, w.2, 0⟩ := by subst h; rfl
theorem joins_which {n : Nat} {t : Tok} (hn : isChain n) (h : joins n t = true) : NoJ (n + 1) t := by
  unfold joins at h
  have hx : 0 ≤ idx (signsOf n) t.text := by simp at h; exact h.1
  intro m hm hc
  unfold isChain at hn hc
  unfold joins
  have key : idx (signsOf m) t.text < 0 := by
    rcases hn with rfl | rfl | rfl | rfl
    · have : t.text = [111, 114] := by
        unfold signsOf at hx; simp only [if_true] at hx; unfold idx at hx; split at hx
        · rename_i e; simp at e; exact e.symm
        · unfold idx at hx; simp at hx
      rcases hc with rfl | rfl | rfl | rfl <;> first | omega | (rw [this]; decide)
    · have : t.text = [97, 110, 100] := by
        unfold signsOf at hx; simp at hx; unfold idx at hx; split at hx
        · rename_i e; simp at e; exact e.symm
        · unfold idx at hx; simp at hx
      rcases hc with rfl | rfl | rfl | rfl <;> first | omega | (rw [this]; decide)
    · have : t.text = [61] ∨ t.text = [60] ∨ t.text = [60, 61] := by
        by_cases h1 : t.text = [61]
        · exact .inl h1
        by_cases h2 : t.text = [60]
        · exact .inr (.inl h2)
        by_cases h3 : t.text = [60, 61]
        · exact .inr (.inr h3)
        exfalso
        simp [signsOf, idx, Ne.symm h1, Ne.symm h2, Ne.symm h3] at hx
      rcases hc with rfl | rfl | rfl | rfl <;> first | omega | (rcases this with e | e | e <;> (rw [e]; decide))
    · rcases hc with rfl | rfl | rfl | rfl <;> omega
  have : decide (0 ≤ idx (signsOf m) t.text) = false := by simp; omega
  rw [this]; rfl
theorem is_two {d : Nat} {L : List Pt} {a b : Nat} {sa sb : Sy} {t : Tok} {s : Sy} (hs : SameW t s) (hk : s.kids = [sa, sb]) (h1 : IsSy d L a sa) (h2 : IsSy d L b sb) : IsSy (d + 1) (L ++ [⟨t, [a, b]⟩]) L.length s := by
  refine ⟨by simp, by rw [getD_last]; exact hs, by rw [getD_last, hk]; rfl, fun j hj => ?_⟩
  rw [getD_last, hk]
  rw [hk] at hj
  match j, hj with
  | 0, _ => exact h1.more _
  | 1, _ => exact h2.more _
/-- Two conditions with a sign between them. -/
theorem RdS.two {d n : Nat} {wa wb : List (Nat × List UInt8)} {sa sb : Sy} {w : Nat × List UInt8} (hn : isChain n) (hw : joins n ⟨w.1, w.2, 0⟩ = true) (ha : RdS d (n + 1) wa sa) (hb : RdS d (n + 1) wb sb) : RdS (d + 1) n (wa ++ w :: wb) ⟨w.1, w.2, [sa, sb]⟩ := by
  intro ts i L x f r hm hj hP
  have h6 : n ≠ 6 := by unfold isChain at hn; omega
  have h5 : n + 1 ≠ 6 := by unfold isChain at hn; omega
  have hk110 : w.1 ≠ 110 := by unfold joins at hw; simp at hw; omega
  rw [if_neg h6] at hj
  have hlen : (wa ++ w :: wb).length = wa.length + 1 + wb.length := by simp; omega
  rw [hlen] at hj ⊢
  have hma := hm.left
  obtain ⟨hmw, hmb⟩ := hm.right
  have hjw : joins n (tokAt ts (i + wa.length)) = true := by rw [joins_wd hmw]; exact hw
  cases f with
  | zero => exact (P_zero hP).elim
  | succ f =>
    obtain ⟨a, hPa, hr⟩ := chain_split hn hP
    have g := ha ts i L 0 f a hma (by rw [if_neg h5]; exact joins_which hn hjw) hPa
    rcases hr with ⟨_, hr⟩ | ⟨e, _⟩
    · cases f with
      | zero => exact (P_zero hr).elim
      | succ f =>
        rw [g.at_] at hr
        obtain ⟨b, hPb, hb'⟩ := loop_yes hn hr hjw
        have hje : NoJ n (tokAt ts (i + wa.length + 1 + wb.length)) := by rw [show i + wa.length + 1 + wb.length = i + (wa.length + 1 + wb.length) from by omega]; exact hj
        have q := hb ts (i + wa.length + 1) a.L 0 f b hmb (by rw [if_neg h5]; exact hje.up) hPb
        have hsw : SameW (tokAt ts (i + wa.length)) ⟨w.1, w.2, [sa, sb]⟩ := by
          have e := hmw
          unfold wd at e
          refine ⟨by rw [← e], ?_⟩
          show (if w.1 = 110 then _ else _)
          rw [if_neg hk110, ← e]
        obtain ⟨na, hna⟩ := g.new
        obtain ⟨nb, hnb⟩ := q.new
        have ia : IsSy d b.L a.top sa := by rw [hnb]; exact g.is.more _
        have hI : IsSy (d + 1) (b.L ++ [⟨tokAt ts (i + wa.length), [a.top, b.top]⟩]) b.L.length ⟨w.1, w.2, [sa, sb]⟩ := is_two hsw rfl ia q.is
        have hL : ∃ new, b.L ++ [⟨tokAt ts (i + wa.length), [a.top, b.top]⟩] = L ++ new := ⟨na ++ nb ++ [⟨tokAt ts (i + wa.length), [a.top, b.top]⟩], by rw [hnb, hna]; simp⟩
        have hc : (b.L ++ [(⟨tokAt ts (i + wa.length), [a.top, b.top]⟩ : Pt)]).length = L.length + cS (d + 1) ⟨w.1, w.2, [sa, sb]⟩ := by
          simp [cS]; rw [q.len, g.len]; omega
        rcases hb' with ⟨e, _⟩ | ⟨_, ⟨_, hr⟩ | ⟨_, hr⟩⟩
        · rw [q.ok] at e; cases e
        · subst hr
          exact ⟨rfl, by show b.i = _; rw [q.at_]; omega, hL, hc, by simp [put], hI⟩
        · cases f with
          | zero => exact (P_zero hr).elim
          | succ f =>
            have := loop_no hn hr (by rw [q.at_]; exact hje n (Nat.le_refl _) hn)
            subst this
            exact ⟨rfl, by show b.i = _; rw [q.at_]; omega, hL, hc, by simp, hI⟩
    · rw [g.ok] at e; cases e
/-- A condition in brackets. -/
theorem noJ_sign {t : Tok} {n : Nat} (h : wd t = (115, [41]) ∨ wd t = (115, [59]) ∨ wd t = (107, wThen) ∨ wd t = (107, wElse)) : NoJ n t := by
  intro m _ hc
  unfold isChain at hc
  rcases h with h | h | h | h <;> (rw [joins_wd h]; rcases hc with rfl | rfl | rfl | rfl <;> decide)
theorem RdS.brackets {d : Nat} {ws : List (Nat × List UInt8)} {s : Sy} (h : RdS d 6 ws s) : RdS d 5 ((115, [40]) :: (ws ++ [(115, [41])])) s := by
  intro ts i L x f r hm _ hP
  cases f with
  | zero => exact (P_zero hP).elim
  | succ f =>
    obtain ⟨h1, h2⟩ := hm
    obtain ⟨h3, _⟩ := h2.right
    obtain ⟨a, ha, hr⟩ := one_open hP (by rw [isW_wd h1]; rfl)
    have g := h ts (i + 1) L 0 f a h2.left (noJ_sign (.inl h3)) ha
    have hcl : isW (tokAt ts a.i) [41] = true := by rw [g.at_, isW_wd h3]; rfl
    rcases hr with ⟨_, _, rfl⟩ | ⟨hn, _⟩
    · exact ⟨g.ok, by show a.i + 1 = _; rw [g.at_]; simp; omega, g.new, g.len, g.top, g.is⟩
    · exact absurd ⟨g.ok, hcl⟩ hn
theorem hd_brackets (ws : List (Nat × List UInt8)) : Hd ((115, [40]) :: ws) := ⟨_, _, rfl, by decide, by decide⟩
/-- A condition with 'not' ahead of it. -/
theorem RdS.not_ {d : Nat} {ws : List (Nat × List UInt8)} {s : Sy} (h : RdS d 2 ws s) : RdS (d + 1) 2 ((107, wNot) :: ws) ⟨107, wNot, [s]⟩ := by
  intro ts i L x f r hm hj hP
  cases f with
  | zero => exact (P_zero hP).elim
  | succ f =>
    obtain ⟨h1, h2⟩ := hm
    obtain ⟨a, ha, ok, hi, hr⟩ := not_yes hP (by rw [isW_wd h1]; rfl)
    have g := h ts (i + 1) L 0 f a h2 (by rw [show i + 1 + ws.length = i + ((107, wNot) :: ws).length from by simp; omega]; exact hj) ha
    have := hr g.ok
    subst this
    obtain ⟨na, hna⟩ := g.new
    refine ⟨rfl, by show a.i = _; rw [g.at_]; simp; omega, ⟨na ++ [Pt.mk (tokAt ts i) [a.top]], by show a.L ++ _ = _; rw [hna]; simp⟩, by simp [put, cS]; rw [g.len]; omega, by simp [put], ?_⟩
    refine ⟨by simp [put], ?_, ?_, fun j hj' => ?_⟩
    · show SameW ((a.L ++ [Pt.mk (tokAt ts i) [a.top]]).getD a.L.length noPt).tok _
      rw [getD_last]
      have e := h1
      unfold wd at e
      exact ⟨by have := congrArg Prod.fst e; exact this, by rw [if_neg (by show ¬ 107 = 110; decide)]; have := congrArg Prod.snd e; exact this⟩
    · show ((a.L ++ [Pt.mk (tokAt ts i) [a.top]]).getD a.L.length noPt).subs.length = _
      rw [getD_last]; rfl
    · show IsSy d (a.L ++ [Pt.mk (tokAt ts i) [a.top]]) (((a.L ++ [Pt.mk (tokAt ts i) [a.top]]).getD a.L.length noPt).subs.getD j 0) _
      rw [getD_last]
      match j, hj' with
      | 0, _ => exact g.is.more _
/-- A choice. -/
theorem RdS.if_ {d : Nat} {wa wb wc : List (Nat × List UInt8)} {sa sb sc : Sy} (ha : RdS d 6 wa sa) (hb : RdS d 6 wb sb) (hc : RdS d 6 wc sc) : RdS (d + 1) 6 ((107, wIf) :: (wa ++ (107, wThen) :: (wb ++ (107, wElse) :: wc))) ⟨107, wIf, [sa, sb, sc]⟩ := by
  intro ts i L x f r hm hj hP
  have hlen : ((107, wIf) :: (wa ++ (107, wThen) :: (wb ++ (107, wElse) :: wc))).length = 1 + wa.length + 1 + wb.length + 1 + wc.length := by simp; omega
  rw [hlen] at hj ⊢
  cases f with
  | zero => exact (P_zero hP).elim
  | succ f =>
    obtain ⟨h1, h2⟩ := hm
    have ma := h2.left
    obtain ⟨h3, h4⟩ := h2.right
    have mb := h4.left
    obtain ⟨h5, mc⟩ := h4.right
    obtain ⟨a, b, c, pa, nb, nc, ok, hi, hr⟩ := if_split hP (by rw [isW_wd h1]; rfl)
    have g := ha ts (i + 1) L 0 f a ma (noJ_sign (.inr (.inr (.inl h3)))) pa
    unfold Nx at nb nc
    rw [if_pos ⟨g.ok, by rw [g.at_, isW_wd h3]; rfl⟩, g.at_] at nb
    have q := hb ts _ a.L 0 f b mb (noJ_sign (.inr (.inr (.inr h5)))) nb
    rw [if_pos ⟨q.ok, by rw [q.at_, isW_wd h5]; rfl⟩, q.at_] at nc
    have u := hc ts _ b.L 0 f c mc (by rw [show i + 1 + wa.length + 1 + wb.length + 1 + wc.length = i + (1 + wa.length + 1 + wb.length + 1 + wc.length) from by omega]; exact hj) nc
    obtain ⟨_, _, rfl⟩ := hr u.ok
    obtain ⟨na, hna⟩ := g.new
    obtain ⟨nb', hnb⟩ := q.new
    obtain ⟨nc', hnc⟩ := u.new
    have ia : IsSy d c.L a.top sa := by rw [hnc, hnb]; exact (g.is.more _).more _
    have ib : IsSy d c.L b.top sb := by rw [hnc]; exact q.is.more _
    refine ⟨rfl, by show c.i = _; rw [u.at_]; omega, ⟨na ++ nb' ++ nc' ++ [Pt.mk (tokAt ts i) [a.top, b.top, c.top]], by show c.L ++ _ = _; rw [hnc, hnb, hna]; simp⟩, by simp [put, cS]; rw [u.len, q.len, g.len]; omega, by simp [put], ?_⟩
    refine ⟨by simp [put], ?_, ?_, fun j hj' => ?_⟩
    · show SameW ((c.L ++ [Pt.mk (tokAt ts i) [a.top, b.top, c.top]]).getD c.L.length noPt).tok _
      rw [getD_last]
      have e := h1
      unfold wd at e
      exact ⟨by have := congrArg Prod.fst e; exact this, by rw [if_neg (by show ¬ 107 = 110; decide)]; have := congrArg Prod.snd e; exact this⟩
    · show ((c.L ++ [Pt.mk (tokAt ts i) [a.top, b.top, c.top]]).getD c.L.length noPt).subs.length = _
      rw [getD_last]; rfl
    · show IsSy d (c.L ++ [Pt.mk (tokAt ts i) [a.top, b.top, c.top]]) (((c.L ++ [Pt.mk (tokAt ts i) [a.top, b.top, c.top]]).getD c.L.length noPt).subs.getD j 0) _
      rw [getD_last]
      match j, hj' with
      | 0, _ => exact ia.more _
      | 1, _ => exact ib.more _
      | 2, _ => exact u.is.more _
/-- A word that stands alone. -/
theorem RdS.one {d : Nat} {w : Nat × List UInt8} {s : Sy} (ha : alone ⟨w.1, w.2, 0⟩ = true) (hk : s.kids = []) (hs : SameW ⟨w.1, w.2, 0⟩ s) : RdS (d + 1) 5 [w] s := by
  intro ts i L x f r hm _ hP
  cases f with
  | zero => exact (P_zero hP).elim
  | succ f =>
    obtain ⟨h1, _⟩ := hm
    have e : alone (tokAt ts i) = true := by subst h1; exact ha
    have e40 : ¬ isW (tokAt ts i) [40] = true := by
      rw [isW_wd h1]
      intro h
      unfold isWw at h
      unfold alone at ha
      simp only [Bool.and_eq_true, beq_iff_eq] at h
      rw [h.2] at ha
      revert ha
      have h1 := h.1
      simp at h1
      rcases h1 with h1 | h1 <;> rw [h1] <;> decide
    rcases one_alone hP e40 with ⟨_, rfl⟩ | ⟨e', _⟩
    · refine ⟨rfl, rfl, ⟨_, rfl⟩, by simp [cS, hk], by simp, by simp, ?_, ?_, fun j hj => ?_⟩
      · show SameW ((L ++ [Pt.mk (tokAt ts i) []]).getD L.length noPt).tok _
        rw [getD_last]; subst h1; exact hs
      · show ((L ++ [Pt.mk (tokAt ts i) []]).getD L.length noPt).subs.length = _
        rw [getD_last, hk]; rfl
      · rw [hk] at hj; exact absurd hj (by simp)
    · rw [e] at e'; cases e'
theorem hd_one {w : Nat × List UInt8} (ha : alone ⟨w.1, w.2, 0⟩ = true) : Hd [w] := by
  refine ⟨w, [], rfl, ?_, ?_⟩ <;>
  · rw [Bool.eq_false_iff]
    intro h
    unfold isWw at h
    unfold alone at ha
    simp only [Bool.and_eq_true, beq_iff_eq] at h
    rw [h.2] at ha
    revert ha
    have h1 := h.1
    simp at h1
    rcases h1 with h1 | h1 <;> rw [h1] <;> decide
end Go.Proofs.YtfkdailfcmnjlaaGreatDoor
