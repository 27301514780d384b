/-
  Compiling: the passes over a whole policy leave what it says. Compiling: the instructions that a condition becomes, as plain Lean functions; what they do. Compiling: the instructions of a condition lay, or ask, what it tells.
-/
import Derived.Test.YtfkdailfcmnjlaaGreatDoorCompiles01
import Derived.Test.YtfkdailfcmnjlaaGreatDoorCompiles02
import Derived.Test.YtfkdailfcmnjlaaGreatDoorCompiles04
import Derived.Test.YtfkdailfcmnjlaaGreatDoorCompiles05
import Derived.Test.YtfkdailfcmnjlaaGreatDoorCompiles06
import Derived.Test.YtfkdailfcmnjlaaGreatDoorCompiles07
import Derived.Test.YtfkdailfcmnjlaaGreatDoorCompiles08
import Derived.Test.YtfkdailfcmnjlaaGreatDoorCompiles09
import Derived.Test.YtfkdailfcmnjlaaGreatDoorCompiles10
import Derived.Test.YtfkdailfcmnjlaaGreatDoorCompiles11
import Derived.Test.YtfkdailfcmnjlaaGreatDoorCompiles12
import Derived.Test.YtfkdailfcmnjlaaGreatDoorCompiles13
import Derived.Test.YtfkdailfcmnjlaaGreatDoorCompiles14
import Derived.Test.YtfkdailfcmnjlaaGreatDoorCompiles15
import Derived.Test.YtfkdailfcmnjlaaGreatDoorCompiles16
import Derived.Test.YtfkdailfcmnjlaaGreatDoorCompiles17
import Derived.Test.YtfkdailfcmnjlaaGreatDoorCompiles18
import Derived.Test.YtfkdailfcmnjlaaGreatDoorCompiles19
import Derived.Test.YtfkdailfcmnjlaaGreatDoorCompiles24
import Derived.Test.YtfkdailfcmnjlaaGreatDoorLays
import Derived.WalkKit
import Derived.Deep.QuietTactic
import Derived.BigQuiet
import Derived.WalkSpells
import GoSem.Op.String
import Derived.Deep.AppendLies
import Derived.Deep.RegionHeld3
import Derived.Deep.DrawnRows
import Derived.Deep.RegionHeldLaw
import Derived.Deep.RegionLaw
import Derived.Lib.ParseIntBCases
set_option linter.unusedVariables false
set_option linter.unusedSimpArgs false
namespace Go.Proofs.YtfkdailfcmnjlaaGreatDoor
open Go Go.RowKit
set_option maxRecDepth 100000

/-- An item: let 11, allow 12, deny 13; which of its kind; its condition. -/
structure ItT where
  kind : Nat
  wh : Nat
  c : Tr
def rwI (p : Pass) (d : Nat) : List Tr → List ItT → List ItT
  | _, [] => []
  | lets, x :: r =>
    if p.inl = true ∧ x.kind = 11 ∧ (rwT p lets d x.c).kids = [] then rwI p d (if x.kind = 11 then lets ++ [rwT p lets d x.c] else lets) r
    else ⟨x.kind, x.wh, rwT p lets d x.c⟩ :: rwI p d (if x.kind = 11 then lets ++ [rwT p lets d x.c] else lets) r
def reaT : List ItT → List ItT
  | [] => []
  | x :: r => if x.kind ≠ 11 ∧ x.c.k = 21 then reaT r else if x.kind ≠ 11 ∧ x.c.k = 20 then [x] else x :: reaT r
def noteT : Nat → Tr → List Bool → List Bool
  | 0, _, nm => nm
  | d + 1, t, nm => t.kids.foldl (fun a c => noteT d c a) (if t.k = 2 then nm.set t.l.toNat true else nm)
def noNames : List Bool := [false, false, false, false, false, false, false, false, false, false]
def askT (d : Nat) : List ItT → List ItT × List Bool
  | [] => ([], noNames)
  | x :: r => if x.kind = 11 ∧ (askT d r).2.getD x.wh false = false then askT d r else (x :: (askT d r).1, noteT d x.c (askT d r).2)
def rewT (p : Pass) (d : Nat) (l : List ItT) : List ItT := if p.pru then (askT d (reaT (rwI p d [] l))).1 else rwI p d [] l

/-- What items say of an event. -/
def meanT (d : Nat) (fl : List Int) : List Int → List ItT → Bool × Nat
  | _, [] => (false, 0)
  | env, x :: r => if x.kind = 11 then meanT d fl (env.set x.wh (evT env fl d x.c)) r else if evT env fl d x.c = 1 then (decide (x.kind = 12), x.wh) else meanT d fl env r
/-- The items have their types. -/
def TyI (d : Nat) : List Nat → List ItT → Prop
  | _, [] => True
  | lt, x :: r => WfT d x.c ∧ tyTr lt d x.c ≠ 0 ∧ ((x.kind = 11 ∧ x.wh < lt.length ∧ TyI d (lt.set x.wh (tyTr lt d x.c)) r) ∨ ((x.kind = 12 ∨ x.kind = 13) ∧ tyTr lt d x.c = 2 ∧ x.wh ≤ 255 ∧ TyI d lt r))
/-- Lets are numbered from here on. -/
def SeqI : Nat → List ItT → Prop
  | _, [] => True
  | m, x :: r => (x.kind = 11 ∧ x.wh = m ∧ SeqI (m + 1) r) ∨ (x.kind ≠ 11 ∧ SeqI m r)
def cntI (d : Nat) (l : List ItT) : Nat := (l.map fun x => cntT d x.c).sum

/-- What rewriting keeps from item to item. -/
structure RwInv (p : Pass) (lets : List Tr) (m : Nat) (lt lt' : List Nat) (lv lv' fl : List Int) : Prop where
  ok : LetsOK p lets lt lt' lv lv' fl
  has : LetsT lt lv
  has' : LetsT lt' lv'
  len : lets.length = m
  late : ∀ i, m ≤ i → lt.getD i 0 = 0
  llt : lt.length = 10
  llt' : lt'.length = 10
  llv : lv.length = 10
  llv' : lv'.length = 10
  fit' : ∀ i, lt'.getD i 0 ≠ 0 → i < m
theorem lets_set {lt : List Nat} {lv : List Int} (h : LetsT lt lv) {i t : Nat} {v : Int} (h1 : i < lt.length) (h2 : i < lv.length) (hv : HasT t v) : LetsT (lt.set i t) (lv.set i v) := fun j hj => by
  by_cases e : i = j
  · subst e; rw [getD_set_eq h1, getD_set_eq h2]; exact hv
  · rw [getD_set_ne e] at hj ⊢
    rw [getD_set_ne e]; exact h j hj
theorem getD_snoc_lt {α : Type} {l : List α} {i : Nat} {v d : α} (h : i < l.length) : (l ++ [v]).getD i d = l.getD i d := by
  rw [List.getD_eq_getElem?_getD, List.getD_eq_getElem?_getD, List.getElem?_append_left h]
theorem getD_snoc_eq {α : Type} {l : List α} {v d : α} : (l ++ [v]).getD l.length d = v := by
  rw [List.getD_eq_getElem?_getD, List.getElem?_append_right (Nat.le_refl _)]; simp
/-- What a word tells and its type hang on the let that it names alone. -/
theorem one_set {lt : List Nat} {lv fl : List Int} {t : Tr} (hs : t.kids = []) {i ty : Nat} {v : Int} (hne : t.k = 2 → t.l.toNat ≠ i) : tyTr (lt.set i ty) 1 t = tyTr lt 1 t ∧ evT (lv.set i v) fl 1 t = evT lv fl 1 t := by
  rw [tyTr, tyTr, evT, evT, hs, if_pos rfl, if_pos rfl]
  refine ⟨?_, ?_⟩
  · unfold wordTy
    by_cases h1 : t.k = 1
    · rw [if_pos h1, if_pos h1]
    rw [if_neg h1, if_neg h1]
    by_cases h2 : t.k = 2
    · rw [if_pos h2, if_pos h2, getD_set_ne (Ne.symm (hne h2))]
    · rw [if_neg h2, if_neg h2]
  · show wordT _ _ _ = wordT _ _ _
    unfold wordT
    by_cases h1 : t.k = 1
    · rw [if_pos h1, if_pos h1]
    rw [if_neg h1, if_neg h1]
    by_cases h2 : t.k = 2
    · rw [if_pos h2, if_pos h2, getD_set_ne (Ne.symm (hne h2))]
    · rw [if_neg h2, if_neg h2]
theorem one_own {lt : List Nat} {t : Tr} (hs : t.kids = []) (h2 : t.k = 2) : tyTr lt 1 t = lt.getD t.l.toNat 0 := by
  rw [tyTr, if_pos hs]; unfold wordTy; rw [if_neg (by omega), if_pos h2]
/-- The inlined lets stay as good when another let is laid. -/
theorem letsOK_more {p : Pass} {lets : List Tr} {m : Nat} {lt lt' : List Nat} {lv lv' fl : List Int} (h : RwInv p lets m lt lt' lv lv' fl) (hm : m < 10) {c : Tr} {ty : Nat} {v : Int} (hc : c.kids = [] → p.inl = true → WfT 1 c ∧ tyTr lt' 1 c = ty ∧ evT lv' fl 1 c = v) (hv : HasT ty v) :
    (p.inl = true ∧ c.kids = [] → RwInv p (lets ++ [c]) (m + 1) (lt.set m ty) lt' (lv.set m v) lv' fl) ∧ (¬ (p.inl = true ∧ c.kids = []) → RwInv p (lets ++ [c]) (m + 1) (lt.set m ty) (lt'.set m ty) (lv.set m v) (lv'.set m v) fl) := by
  have hl := h.len
  have e1 := h.llt
  have e2 := h.llt'
  have e3 := h.llv
  have e4 := h.llv'
  have old : ∀ i, i ≠ m → (lt.set m ty).getD i 0 ≠ 0 → i < m ∧ lt.getD i 0 ≠ 0 ∧ (lets ++ [c]).getD i noTr = lets.getD i noTr := fun i hi hn => by
    rw [getD_set_ne (Ne.symm hi)] at hn
    have him : i < m := by
      by_cases e : i < m
      · exact e
      · exact absurd (h.late i (by omega)) hn
    exact ⟨him, hn, getD_snoc_lt (by omega)⟩
  have new : (lets ++ [c]).getD m noTr = c := by rw [← hl]; exact getD_snoc_eq
  refine ⟨fun hi => ?_, fun hi => ?_⟩
  · obtain ⟨c1, c2, c3⟩ := hc hi.2 hi.1
    refine ⟨⟨fun i hn hp hk => ?_, fun i hn hk => ?_⟩, lets_set h.has (by omega) (by omega) hv, h.has', by simp [hl], fun i him => ?_, by simp [e1], e2, by simp [e3], e4, fun i hi => by have := h.fit' i hi; omega⟩
    · by_cases e : i = m
      · subst e
        rw [new, getD_set_eq (by omega), getD_set_eq (by omega)]; exact ⟨c1, c2, c3⟩
      · obtain ⟨a, b, q⟩ := old i e hn
        rw [q] at hk ⊢
        rw [getD_set_ne (Ne.symm e), getD_set_ne (Ne.symm e)]; exact h.ok.one i b hp hk
    · by_cases e : i = m
      · subst e; rw [new] at hk; exact absurd hi hk
      · obtain ⟨a, b, q⟩ := old i e hn
        rw [q] at hk
        rw [getD_set_ne (Ne.symm e), getD_set_ne (Ne.symm e)]; exact h.ok.same i b hk
    · rw [getD_set_ne (by omega)]; exact h.late i (by omega)
  · refine ⟨⟨fun i hn hp hk => ?_, fun i hn hk => ?_⟩, lets_set h.has (by omega) (by omega) hv, lets_set h.has' (by omega) (by omega) hv, by simp [hl], fun i him => ?_, by simp [e1], by simp [e2], by simp [e3], by simp [e4], fun i hi => ?_⟩
    · by_cases e : i = m
      · subst e; rw [new] at hk; exact absurd ⟨hp, hk⟩ hi
      · obtain ⟨a, b, q⟩ := old i e hn
        rw [q] at hk ⊢
        rw [getD_set_ne (Ne.symm e), getD_set_ne (Ne.symm e)]
        obtain ⟨o1, o2, o3⟩ := h.ok.one i b hp hk
        have hne : (lets.getD i noTr).k = 2 → (lets.getD i noTr).l.toNat ≠ m := fun h2 e => by
          rw [one_own hk h2, e] at o2
          have := h.fit' m (by rw [o2]; exact b)
          omega
        obtain ⟨s1, s2⟩ := one_set (lt := lt') (lv := lv') (fl := fl) hk (i := m) (ty := ty) (v := v) hne
        rw [s1, s2]; exact ⟨o1, o2, o3⟩
    · by_cases e : i = m
      · subst e
        rw [getD_set_eq (by omega), getD_set_eq (by omega), getD_set_eq (by omega), getD_set_eq (by omega)]; exact ⟨rfl, rfl⟩
      · obtain ⟨a, b, q⟩ := old i e hn
        rw [q] at hk
        rw [getD_set_ne (Ne.symm e), getD_set_ne (Ne.symm e), getD_set_ne (Ne.symm e), getD_set_ne (Ne.symm e)]; exact h.ok.same i b hk
    · rw [getD_set_ne (by omega)]; exact h.late i (by omega)
    · by_cases e : i = m
      · omega
      · rw [getD_set_ne (Ne.symm e)] at hi; have := h.fit' i hi; omega

theorem rwI_ok {p : Pass} {d : Nat} {fl : List Int} (hF : FieldsT fl) : ∀ {l : List ItT} {lets : List Tr} {m : Nat} {lt lt' : List Nat} {lv lv' : List Int}, RwInv p lets m lt lt' lv lv' fl → TyI d lt l → SeqI m l →
    TyI d lt' (rwI p d lets l) ∧ meanT d fl lv' (rwI p d lets l) = meanT d fl lv l ∧ cntI d (rwI p d lets l) ≤ cntI d l ∧ (rwI p d lets l).length ≤ l.length
  | [], lets, m, lt, lt', lv, lv', _, _, _ => ⟨trivial, rfl, Nat.le_refl _, Nat.le_refl _⟩
  | x :: r, lets, m, lt, lt', lv, lv', h, hT, hS => by
    obtain ⟨hw, hty, hk⟩ := hT
    have ha := rw_alike h.ok h.has' hF hw hty
    have hv := ev_has h.has hF hw hty
    have hcons : ∀ (y : ItT) (q : List ItT), cntI d (y :: q) = cntT d y.c + cntI d q := fun y q => by simp [cntI]
    rcases hk with ⟨h11, hwh, hT⟩ | ⟨hkk, ht2, hwh, hT⟩
    · have hS : x.wh = m ∧ SeqI (m + 1) r := by
        rcases hS with hS | hS
        · exact hS.2
        · exact absurd h11 hS.1
      obtain ⟨hm, hS⟩ := hS
      rw [hm] at hwh hT
      have h10 := h.llt
      obtain ⟨n1, n2⟩ := letsOK_more h (by omega) (c := rwT p lets d x.c) (ty := tyTr lt d x.c) (v := evT lv fl d x.c) (fun hs _ => by
        have hw1 : WfT 1 (rwT p lets d x.c) := by
          cases d with
          | zero => exact hw.elim
          | succ d => exact ⟨ha.wf.1, by rw [hs]; simp⟩
        have hd : 1 ≤ d := by
          cases d with
          | zero => exact hw.elim
          | succ d => omega
        refine ⟨hw1, ?_, ?_⟩
        · rw [← tyTr_up hw1 hd, ha.ty]
        · rw [← evT_up hw1 hd, ha.ev]) hv
      rw [rwI, if_pos h11]
      by_cases hi : p.inl = true ∧ x.kind = 11 ∧ (rwT p lets d x.c).kids = []
      · rw [if_pos hi]
        obtain ⟨i1, i2, i3, i4⟩ := rwI_ok hF (n1 ⟨hi.1, hi.2.2⟩) hT hS
        refine ⟨i1, ?_, ?_, ?_⟩
        · rw [i2]; conv => rhs; rw [meanT, if_pos h11, hm]
        · rw [hcons]; omega
        · simp; omega
      · rw [if_neg hi]
        obtain ⟨i1, i2, i3, i4⟩ := rwI_ok hF (n2 fun e => hi ⟨e.1, h11, e.2⟩) hT hS
        refine ⟨⟨ha.wf, by rw [ha.ty]; exact hty, .inl ⟨h11, ?_, ?_⟩⟩, ?_, ?_, ?_⟩
        · simp only [hm]; rw [h.llt']; omega
        · simp only [hm, ha.ty]; exact i1
        · rw [meanT, if_pos h11]; simp only [hm, ha.ev]; rw [i2]; conv => rhs; rw [meanT, if_pos h11, hm]
        · rw [hcons, hcons]; have := ha.cnt; simp only []; omega
        · simp; omega
    · have h11 : x.kind ≠ 11 := by omega
      have hS : SeqI m r := by
        rcases hS with hS | hS
        · exact absurd hS.1 h11
        · exact hS.2
      rw [rwI, if_neg h11, if_neg (fun e => h11 e.2.1)]
      obtain ⟨i1, i2, i3, i4⟩ := rwI_ok hF h hT hS
      refine ⟨⟨ha.wf, by rw [ha.ty]; exact hty, .inr ⟨hkk, by rw [ha.ty]; exact ht2, hwh, i1⟩⟩, ?_, ?_, ?_⟩
      · rw [meanT, if_neg h11]; simp only [ha.ev]; rw [i2]; conv => rhs; rw [meanT, if_neg h11]
      · rw [hcons, hcons]; have := ha.cnt; simp only []; omega
      · simp; omega

theorem reaT_ok {d : Nat} {fl : List Int} : ∀ {l : List ItT} {lt : List Nat} {lv : List Int}, TyI d lt l → TyI d lt (reaT l) ∧ meanT d fl lv (reaT l) = meanT d fl lv l ∧ cntI d (reaT l) ≤ cntI d l ∧ (reaT l).length ≤ l.length
  | [], lt, lv, _ => ⟨trivial, rfl, Nat.le_refl _, Nat.le_refl _⟩
  | x :: r, lt, lv, hT => by
    obtain ⟨hw, hty, hk⟩ := hT
    have hcons : ∀ (y : ItT) (q : List ItT), cntI d (y :: q) = cntT d y.c + cntI d q := fun y q => by simp [cntI]
    rcases hk with ⟨h11, hwh, hT⟩ | ⟨hkk, ht2, hwh, hT⟩
    · rw [reaT, if_neg (fun e => e.1 h11), if_neg (fun e => e.1 h11)]
      obtain ⟨i1, _, i3, i4⟩ := reaT_ok (fl := fl) (lv := lv) hT
      refine ⟨⟨hw, hty, .inl ⟨h11, hwh, i1⟩⟩, ?_, by rw [hcons, hcons]; omega, by simp; omega⟩
      rw [meanT, meanT, if_pos h11, if_pos h11]; exact (reaT_ok hT).2.1
    · have h11 : x.kind ≠ 11 := by omega
      obtain ⟨i1, i2, i3, i4⟩ := reaT_ok (fl := fl) (lv := lv) hT
      rw [reaT]
      by_cases h21 : x.c.k = 21
      · rw [if_pos ⟨h11, h21⟩]
        refine ⟨i1, ?_, by rw [hcons]; omega, by simp; omega⟩
        rw [i2]; conv => rhs; rw [meanT, if_neg h11, ev_false hw h21, if_neg (by decide)]
      rw [if_neg (fun e => h21 e.2)]
      by_cases h20 : x.c.k = 20
      · rw [if_pos ⟨h11, h20⟩]
        refine ⟨⟨hw, hty, .inr ⟨hkk, ht2, hwh, trivial⟩⟩, ?_, by rw [hcons, hcons]; simp [cntI], by simp⟩
        have e : ∀ q, meanT d fl lv (x :: q) = (decide (x.kind = 12), x.wh) := fun q => by rw [meanT, if_neg h11, ev_true hw h20, if_pos rfl]
        rw [e, e]
      · rw [if_neg (fun e => h20 e.2)]
        refine ⟨⟨hw, hty, .inr ⟨hkk, ht2, hwh, i1⟩⟩, ?_, by rw [hcons, hcons]; omega, by simp; omega⟩
        rw [meanT, meanT, if_neg h11, if_neg h11, i2]

/-- The lets that a condition names. -/
def namesT : Nat → Tr → List Int
  | 0, _ => []
  | d + 1, t => (if t.k = 2 then [t.l] else []) ++ t.kids.flatMap (namesT d)
theorem note_keep {d : Nat} : ∀ {t : Tr} {nm : List Bool}, (noteT d t nm).length = nm.length ∧ ∀ i, nm.getD i false = true → (noteT d t nm).getD i false = true := by
  induction d with
  | zero => intro t nm; exact ⟨rfl, fun _ h => h⟩
  | succ d ih =>
    intro t nm
    rw [noteT]
    have hfold : ∀ (l : List Tr) (nm : List Bool), (l.foldl (fun a c => noteT d c a) nm).length = nm.length ∧ ∀ i, nm.getD i false = true → (l.foldl (fun a c => noteT d c a) nm).getD i false = true := by
      intro l
      induction l with
      | nil => intro nm; exact ⟨rfl, fun _ h => h⟩
      | cons c l ihl =>
        intro nm
        rw [List.foldl_cons]
        obtain ⟨a1, a2⟩ := ihl (noteT d c nm)
        obtain ⟨b1, b2⟩ := ih (t := c) (nm := nm)
        exact ⟨a1.trans b1, fun i hi => a2 i (b2 i hi)⟩
    obtain ⟨a1, a2⟩ := hfold t.kids (if t.k = 2 then nm.set t.l.toNat true else nm)
    refine ⟨a1.trans (by split <;> simp), fun i hi => a2 i ?_⟩
    split
    · by_cases e : t.l.toNat = i
      · subst e
        by_cases hl : t.l.toNat < nm.length
        · rw [getD_set_eq hl]
        · rw [List.getD_eq_getElem?_getD, List.getElem?_eq_none (by omega)] at hi; simp at hi
      · rw [getD_set_ne e]; exact hi
    · exact hi
theorem note_has {d : Nat} : ∀ {t : Tr} {nm : List Bool}, ∀ l ∈ namesT d t, l.toNat < nm.length → (noteT d t nm).getD l.toNat false = true := by
  induction d with
  | zero => intro t nm l hl; simp [namesT] at hl
  | succ d ih =>
    intro t nm l hl hlt
    rw [noteT]
    have hfold : ∀ (q : List Tr) (nm : List Bool), l.toNat < nm.length → (nm.getD l.toNat false = true ∨ ∃ c ∈ q, l ∈ namesT d c) → (q.foldl (fun a c => noteT d c a) nm).getD l.toNat false = true := by
      intro q
      induction q with
      | nil => intro nm _ h; rcases h with h | ⟨c, hc, _⟩
               · exact h
               · simp at hc
      | cons c q ihq =>
        intro nm hlt h
        rw [List.foldl_cons]
        refine ihq _ (by rw [note_keep.1]; exact hlt) ?_
        rcases h with h | ⟨x, hx, hm⟩
        · exact .inl (note_keep.2 _ h)
        · rcases List.mem_cons.1 hx with rfl | hx
          · exact .inl (ih l hm hlt)
          · exact .inr ⟨x, hx, hm⟩
    refine hfold _ _ (by split <;> simpa using hlt) ?_
    rw [namesT, List.mem_append] at hl
    rcases hl with hl | hl
    · split at hl
      · rename_i h2
        simp at hl; subst hl
        rw [if_pos h2, getD_set_eq hlt]; exact .inl rfl
      · simp at hl
    · rw [List.mem_flatMap] at hl
      exact .inr hl
theorem names_agree {lt lt' : List Nat} {lv lv' fl : List Int} {d : Nat} : ∀ {t : Tr}, WfT d t → (∀ l ∈ namesT d t, lt'.getD l.toNat 0 = lt.getD l.toNat 0 ∧ lv'.getD l.toNat 0 = lv.getD l.toNat 0) → tyTr lt' d t = tyTr lt d t ∧ evT lv' fl d t = evT lv fl d t := by
  induction d with
  | zero => intro t h; exact h.elim
  | succ d ih =>
    intro t h hn
    have hk : ∀ c ∈ t.kids, tyTr lt' d c = tyTr lt d c ∧ evT lv' fl d c = evT lv fl d c := fun c hc => ih (h.2 c hc) fun l hl => hn l (by
      rw [namesT, List.mem_append, List.mem_flatMap]; exact .inr ⟨c, hc, hl⟩)
    have h2 : t.k = 2 → lt'.getD t.l.toNat 0 = lt.getD t.l.toNat 0 ∧ lv'.getD t.l.toNat 0 = lv.getD t.l.toNat 0 := fun e => hn t.l (by rw [namesT, if_pos e]; simp)
    rw [tyTr, tyTr, evT, evT, List.map_congr_left fun c hc => (hk c hc).1, List.map_congr_left fun c hc => (hk c hc).2]
    have e1 : wordTy lt' t = wordTy lt t := by
      unfold wordTy
      by_cases q1 : t.k = 1
      · rw [if_pos q1, if_pos q1]
      rw [if_neg q1, if_neg q1]
      by_cases q2 : t.k = 2
      · rw [if_pos q2, if_pos q2, (h2 q2).1]
      · rw [if_neg q2, if_neg q2]
    have e2 : wordT lv' fl t = wordT lv fl t := by
      unfold wordT
      by_cases q1 : t.k = 1
      · rw [if_pos q1, if_pos q1]
      rw [if_neg q1, if_neg q1]
      by_cases q2 : t.k = 2
      · rw [if_pos q2, if_pos q2, (h2 q2).2]
      · rw [if_neg q2, if_neg q2]
    rw [e1, e2]; exact ⟨rfl, rfl⟩
theorem names_in {lt : List Nat} {d : Nat} : ∀ {t : Tr}, WfT d t → tyTr lt d t ≠ 0 → ∀ l ∈ namesT d t, l.toNat < lt.length := by
  induction d with
  | zero => intro t h; exact h.elim
  | succ d ih =>
    intro t h hty l hl
    rw [namesT, List.mem_append, List.mem_flatMap] at hl
    rcases hl with hl | ⟨c, hc, hl⟩
    · split at hl
      · rename_i h2
        simp at hl; subst hl
        have hs := wf_leaf h (by unfold leafK; omega)
        rw [tyTr, if_pos hs] at hty
        unfold wordTy at hty
        rw [if_neg (by omega), if_pos h2] at hty
        by_cases e : t.l.toNat < lt.length
        · exact e
        · exfalso; apply hty
          rw [List.getD_eq_getElem?_getD, List.getElem?_eq_none (by omega)]; rfl
      · simp at hl
    · exact ih (h.2 c hc) (kids_ty h hty c hc) l hl
theorem askT_len {d : Nat} : ∀ {l : List ItT}, (askT d l).2.length = 10
  | [] => rfl
  | x :: r => by
    rw [askT]; split
    · exact askT_len
    · exact note_keep.1.trans askT_len
theorem askT_ok {d : Nat} {fl : List Int} : ∀ {l : List ItT} {lt lt' : List Nat} {lv lv' : List Int}, TyI d lt l → lt.length = 10 → lt'.length = 10 → lv.length = 10 → lv'.length = 10 → (∀ i, (askT d l).2.getD i false = true → lt'.getD i 0 = lt.getD i 0 ∧ lv'.getD i 0 = lv.getD i 0) →
    TyI d lt' (askT d l).1 ∧ meanT d fl lv' (askT d l).1 = meanT d fl lv l ∧ cntI d (askT d l).1 ≤ cntI d l ∧ (askT d l).1.length ≤ l.length
  | [], lt, lt', lv, lv', _, _, _, _, _, _ => ⟨trivial, rfl, Nat.le_refl _, Nat.le_refl _⟩
  | x :: r, lt, lt', lv, lv', hT, e1, e2, e3, e4, hag => by
    obtain ⟨hw, hty, hk⟩ := hT
    have hcons : ∀ (y : ItT) (q : List ItT), cntI d (y :: q) = cntT d y.c + cntI d q := fun y q => by simp [cntI]
    rw [askT] at hag ⊢
    by_cases hd : x.kind = 11 ∧ (askT d r).2.getD x.wh false = false
    · rw [if_pos hd] at hag ⊢
      rcases hk with ⟨h11, hwh, hT⟩ | ⟨hkk, _⟩
      · obtain ⟨i1, i2, i3, i4⟩ := askT_ok (fl := fl) (lt' := lt') (lv := lv.set x.wh (evT lv fl d x.c)) (lv' := lv') hT (by simp [e1]) e2 (by simp [e3]) e4 (fun i hi => by
          have hne : x.wh ≠ i := fun e => by rw [← e, hd.2] at hi; simp at hi
          rw [getD_set_ne hne, getD_set_ne hne]; exact hag i hi)
        refine ⟨i1, ?_, by rw [hcons]; omega, by simp; omega⟩
        rw [i2]; conv => rhs; rw [meanT, if_pos h11]
      · omega
    · rw [if_neg hd] at hag ⊢
      simp only [] at hag ⊢
      have hnm : ∀ l ∈ namesT d x.c, lt'.getD l.toNat 0 = lt.getD l.toNat 0 ∧ lv'.getD l.toNat 0 = lv.getD l.toNat 0 := fun l hl => hag _ (note_has l hl (by rw [askT_len]; have := names_in hw hty l hl; omega))
      obtain ⟨n1, n2⟩ := names_agree (fl := fl) hw hnm
      have hag2 : ∀ i, (askT d r).2.getD i false = true → lt'.getD i 0 = lt.getD i 0 ∧ lv'.getD i 0 = lv.getD i 0 := fun i hi => hag i (note_keep.2 i hi)
      rcases hk with ⟨h11, hwh, hT⟩ | ⟨hkk, ht2, hwh, hT⟩
      · obtain ⟨i1, i2, i3, i4⟩ := askT_ok (fl := fl) (lt' := lt'.set x.wh (tyTr lt d x.c)) (lv := lv.set x.wh (evT lv fl d x.c)) (lv' := lv'.set x.wh (evT lv fl d x.c)) hT (by simp [e1]) (by simp [e2]) (by simp [e3]) (by simp [e4]) (fun i hi => by
          by_cases hne : x.wh = i
          · subst hne
            rw [getD_set_eq (by omega), getD_set_eq (by omega), getD_set_eq (by omega), getD_set_eq (by omega)]; exact ⟨rfl, rfl⟩
          · rw [getD_set_ne hne, getD_set_ne hne, getD_set_ne hne, getD_set_ne hne]; exact hag2 i hi)
        refine ⟨⟨hw, by rw [n1]; exact hty, .inl ⟨h11, by omega, by rw [n1]; exact i1⟩⟩, ?_, by rw [hcons, hcons]; omega, by simp; omega⟩
        rw [meanT, if_pos h11, n2, i2]; conv => rhs; rw [meanT, if_pos h11]
      · have h11 : x.kind ≠ 11 := by omega
        obtain ⟨i1, i2, i3, i4⟩ := askT_ok (fl := fl) hT e1 e2 e3 e4 hag2
        refine ⟨⟨hw, by rw [n1]; exact hty, .inr ⟨hkk, by rw [n1]; exact ht2, hwh, i1⟩⟩, ?_, by rw [hcons, hcons]; omega, by simp; omega⟩
        rw [meanT, if_neg h11, n2, i2]; conv => rhs; rw [meanT, if_neg h11]
def zeros10 : List Nat := [0, 0, 0, 0, 0, 0, 0, 0, 0, 0]
def zeroV : List Int := [0, 0, 0, 0, 0, 0, 0, 0, 0, 0]
theorem zeros10_at (i : Nat) : zeros10.getD i 0 = 0 := by
  by_cases h : i < 10
  · have : i = 0 ∨ i = 1 ∨ i = 2 ∨ i = 3 ∨ i = 4 ∨ i = 5 ∨ i = 6 ∨ i = 7 ∨ i = 8 ∨ i = 9 := by omega
    rcases this with rfl | rfl | rfl | rfl | rfl | rfl | rfl | rfl | rfl | rfl <;> rfl
  · rw [List.getD_eq_getElem?_getD, List.getElem?_eq_none (by simp [zeros10]; omega)]; rfl
/-- Rewriting leaves what a policy says. -/
theorem rewT_ok {p : Pass} {d : Nat} {fl : List Int} (hF : FieldsT fl) {l : List ItT} (hT : TyI d zeros10 l) (hS : SeqI 0 l) : TyI d zeros10 (rewT p d l) ∧ meanT d fl zeroV (rewT p d l) = meanT d fl zeroV l ∧ cntI d (rewT p d l) ≤ cntI d l ∧ (rewT p d l).length ≤ l.length := by
  have hz : ∀ i, zeros10.getD i 0 ≠ 0 → False := fun i h => h (zeros10_at i)
  obtain ⟨i1, i2, i3, i4⟩ := rwI_ok (p := p) (d := d) hF (lets := []) (m := 0) (lt := zeros10) (lt' := zeros10) (lv := zeroV) (lv' := zeroV) ⟨⟨fun i h => (hz i h).elim, fun i h => (hz i h).elim⟩, fun i h => (hz i h).elim, fun i h => (hz i h).elim, rfl, fun i _ => zeros10_at i, rfl, rfl, rfl, rfl, fun i h => (hz i h).elim⟩ hT hS
  unfold rewT
  split
  · obtain ⟨j1, j2, j3, j4⟩ := reaT_ok (fl := fl) (lv := zeroV) i1
    obtain ⟨k1, k2, k3, k4⟩ := askT_ok (fl := fl) (lt' := zeros10) (lv := zeroV) (lv' := zeroV) j1 rfl rfl rfl rfl (fun i _ => ⟨rfl, rfl⟩)
    exact ⟨k1, k2.trans (j2.trans i2), by omega, by omega⟩
  · exact ⟨i1, i2, i3, i4⟩
end Go.Proofs.YtfkdailfcmnjlaaGreatDoor

namespace Go.Proofs.YtfkdailfcmnjlaaGreatDoor
open Go Go.RowKit
set_option maxRecDepth 100000

/-- An instruction with where it jumps to, and what is known ahead of it. -/
structure In4 where
  op : Nat
  n : Int
  to : Nat
  kn : Kn
/-- The instruction of a word; of a sign over two. -/
def wordOp (t : Tr) : Nat := if 27 ≤ t.k then 4 else if 22 ≤ t.k then 3 else if t.k = 1 then 1 else if t.k = 2 then 6 else 2
def wordN (t : Tr) : Int := if 27 ≤ t.k then ((t.k - 27 : Nat) : Int) else if 22 ≤ t.k then ((t.k - 22 : Nat) : Int) else if t.k = 1 then t.n else if t.k = 2 then t.l else truthI (decide (t.k = 20))
def overOp (k : Nat) : Nat := if k = 6 then 7 else if k = 7 then 8 else if k = 8 then 9 else if k = 10 then 10 else if k = 9 then 11 else if k = 18 then 13 else 14
/-- Is the condition asked by jumps of its own? -/
def byJ (jmp : Bool) (k : Nat) : Bool := jmp && (decide (k = 20) || decide (k = 21) || decide (k = 19) || decide (k = 18) || decide (k = 17) || decide (k = 14))
/-- How many instructions; none: the value is laid; some: it is asked. -/
def szG (jmp : Bool) : Nat → Option Bool → Tr → Nat
  | 0, _, _ => 0
  | d + 1, m, t =>
    let lay := if t.k = 14 then szG jmp d (some false) (t.kid 0) + szG jmp d none (t.kid 1) + 1 + szG jmp d none (t.kid 2)
      else if t.k = 19 then szG jmp d none (t.kid 0) + 1
      else if t.kids.length = 2 then szG jmp d none (t.kid 0) + szG jmp d none (t.kid 1) + 1 else 1
    match m with
    | none => lay
    | some this =>
      if byJ jmp t.k then
        if t.k = 20 ∨ t.k = 21 then (if this = decide (t.k = 20) then 1 else 0)
        else if t.k = 19 then szG jmp d (some (!this)) (t.kid 0)
        else if t.k = 14 then szG jmp d (some false) (t.kid 0) + szG jmp d (some this) (t.kid 1) + 1 + szG jmp d (some this) (t.kid 2)
        else szG jmp d (some (decide (t.k = 17))) (t.kid 0) + szG jmp d (some this) (t.kid 1)
      else lay + (if this then 2 else 1)
/-- How many lie on the stack at most, with so many beneath. -/
def dpG (jmp : Bool) : Nat → Option Bool → Tr → Nat → Nat
  | 0, _, _, _ => 0
  | d + 1, m, t, b =>
    let lay := if t.k = 14 then max (dpG jmp d (some false) (t.kid 0) b) (max (dpG jmp d none (t.kid 1) b) (dpG jmp d none (t.kid 2) b))
      else if t.k = 19 then dpG jmp d none (t.kid 0) b
      else if t.kids.length = 2 then max (dpG jmp d none (t.kid 0) b) (dpG jmp d none (t.kid 1) (b + 1)) else b + 1
    match m with
    | none => lay
    | some this =>
      if byJ jmp t.k then
        if t.k = 20 ∨ t.k = 21 then 0
        else if t.k = 19 then dpG jmp d (some (!this)) (t.kid 0) b
        else if t.k = 14 then max (dpG jmp d (some false) (t.kid 0) b) (max (dpG jmp d (some this) (t.kid 1) b) (dpG jmp d (some this) (t.kid 2) b))
        else max (dpG jmp d (some (decide (t.k = 17))) (t.kid 0) b) (dpG jmp d (some this) (t.kid 1) b)
      else lay
theorem dpG_le (jmp : Bool) (d : Nat) : ∀ (m : Option Bool) (t : Tr) (b : Nat), dpG jmp d m t b ≤ b + d := by
  induction d with
  | zero => intro m t b; rw [dpG]; omega
  | succ d ih =>
    intro m t b
    have h1 := fun m j => ih m (t.kid j) b
    have h2 := fun m j => ih m (t.kid j) (b + 1)
    have LAY : dpG jmp (d + 1) none t b ≤ b + (d + 1) := by
      simp only [dpG]
      (repeat' split)
      · have a1 := h1 (some false) 0
        have a2 := h1 none 1
        have a3 := h1 none 2
        omega
      · have := h1 none 0; omega
      · have := h1 none 0
        have := h2 none 1
        omega
      · omega
    cases m with
    | none => exact LAY
    | some this =>
      cases hj : byJ jmp t.k with
      | false =>
        have e : dpG jmp (d + 1) (some this) t b = dpG jmp (d + 1) none t b := by simp only [dpG, hj]; rfl
        rw [e]; exact LAY
      | true =>
        simp only [dpG, hj, if_true]
        (repeat' split)
        · omega
        · have := h1 (some (!this)) 0; omega
        · have a1 := h1 (some false) 0
          have a2 := h1 (some this) 1
          have a3 := h1 (some this) 2
          omega
        · have a1 := h1 (some (decide (t.k = 17))) 0
          have a2 := h1 (some this) 1
          omega
/-- The instructions, from a place on; what is asked jumps there. -/
def gen (jmp : Bool) : Nat → Option Bool → Tr → Kn → Nat → Nat → List In4
  | 0, _, _, _, _, _ => []
  | d + 1, m, t, k, p, T =>
    let lay :=
      if t.k = 14 then
        let a := szG jmp d (some false) (t.kid 0)
        let b := szG jmp d none (t.kid 1)
        let c := szG jmp d none (t.kid 2)
        gen jmp d (some false) (t.kid 0) k p (p + a + b + 1) ++ (gen jmp d none (t.kid 1) k (p + a) 0 ++ (⟨16, 0, p + a + b + 1 + c, ⟨tyTr k.cl d (t.kid 1) :: k.st, k.cl⟩⟩ :: gen jmp d none (t.kid 2) k (p + a + b + 1) 0))
      else if t.k = 19 then gen jmp d none (t.kid 0) k p 0 ++ [⟨12, 0, 0, ⟨2 :: k.st, k.cl⟩⟩]
      else if t.kids.length = 2 then
        gen jmp d none (t.kid 0) k p 0 ++ (gen jmp d none (t.kid 1) ⟨tyTr k.cl d (t.kid 0) :: k.st, k.cl⟩ (p + szG jmp d none (t.kid 0)) 0 ++ [⟨overOp t.k, 0, 0, ⟨tyTr k.cl d (t.kid 1) :: tyTr k.cl d (t.kid 0) :: k.st, k.cl⟩⟩])
      else [⟨wordOp t, wordN t, 0, k⟩]
    match m with
    | none => lay
    | some this =>
      if byJ jmp t.k then
        if t.k = 20 ∨ t.k = 21 then (if this = decide (t.k = 20) then [⟨16, 0, T, k⟩] else [])
        else if t.k = 19 then gen jmp d (some (!this)) (t.kid 0) k p T
        else if t.k = 14 then
          let a := szG jmp d (some false) (t.kid 0)
          let b := szG jmp d (some this) (t.kid 1)
          let c := szG jmp d (some this) (t.kid 2)
          gen jmp d (some false) (t.kid 0) k p (p + a + b + 1) ++ (gen jmp d (some this) (t.kid 1) k (p + a) T ++ (⟨16, 0, p + a + b + 1 + c, k⟩ :: gen jmp d (some this) (t.kid 2) k (p + a + b + 1) T))
        else
          let a := szG jmp d (some (decide (t.k = 17))) (t.kid 0)
          let b := szG jmp d (some this) (t.kid 1)
          gen jmp d (some (decide (t.k = 17))) (t.kid 0) k p (if this = decide (t.k = 17) then T else p + a + b) ++ gen jmp d (some this) (t.kid 1) k (p + a) T
      else lay ++ ((if this then [⟨12, 0, 0, ⟨2 :: k.st, k.cl⟩⟩] else []) ++ [⟨15, 0, T, ⟨2 :: k.st, k.cl⟩⟩])
theorem gen_len (jmp : Bool) (d : Nat) : ∀ (m : Option Bool) (t : Tr) (k : Kn) (p T : Nat), (gen jmp d m t k p T).length = szG jmp d m t := by
  induction d with
  | zero => intros; rfl
  | succ d ih =>
    intro m t k p T
    cases m with
    | none =>
      simp only [gen, szG]
      (repeat' split) <;> simp [ih] <;> omega
    | some this =>
      simp only [gen, szG]
      cases this <;> (repeat' split) <;> simp [ih] at * <;> omega
/-- A piece of a list, from a place on. -/
def Sub (F : List In4) (p : Nat) (s : List In4) : Prop := ∃ pre post, F = pre ++ (s ++ post) ∧ pre.length = p
theorem Sub.left {F : List In4} {p : Nat} {a b : List In4} (h : Sub F p (a ++ b)) : Sub F p a := by
  obtain ⟨pre, post, e, hl⟩ := h
  exact ⟨pre, b ++ post, by rw [e, List.append_assoc], hl⟩
theorem Sub.right {F : List In4} {p : Nat} {a b : List In4} (h : Sub F p (a ++ b)) {q : Nat} (hq : a.length = q) : Sub F (p + q) b := by
  obtain ⟨pre, post, e, hl⟩ := h
  exact ⟨pre ++ a, post, by rw [e, List.append_assoc, List.append_assoc], by rw [List.length_append, hl, hq]⟩
theorem Sub.head {F : List In4} {p : Nat} {x : In4} {s : List In4} (h : Sub F p (x :: s)) : F[p]? = some x := by
  obtain ⟨pre, post, e, hl⟩ := h
  rw [e, List.getElem?_append_right (by omega), hl]
  simp
theorem Sub.tail {F : List In4} {p : Nat} {x : In4} {s : List In4} (h : Sub F p (x :: s)) : Sub F (p + 1) s := by
  have : Sub F p ([x] ++ s) := h
  exact this.right rfl
/-- What the machine ends with, from an instruction on. -/
def Says (F : List In4) (fl : List Int) (i : Nat) (st cl : List Int) (r : Bool × Nat) : Prop :=
  ∀ P : Nat → List Int → List Int → Bool × Nat → Prop,
    (∀ (i : Nat) (x : In4) (st cl : List Int), F[i]? = some x → (x.op = 17 ∨ x.op = 18) → P i st cl (decide (x.op = 17), x.n.toNat)) →
    (∀ (i : Nat) (x : In4) (st cl st' cl' : List Int) (j : Bool) (r : Bool × Nat), F[i]? = some x → ¬ (x.op = 17 ∨ x.op = 18) → stepK fl ⟨x.op, x.n, 0⟩ st cl = some (st', cl', j) → P (if j then x.to else i + 1) st' cl' r → P i st cl r) → P i st cl r
theorem Says.stop {F : List In4} {fl : List Int} {i : Nat} {x : In4} {st cl : List Int} (hx : F[i]? = some x) (ho : x.op = 17 ∨ x.op = 18) : Says F fl i st cl (decide (x.op = 17), x.n.toNat) := fun _ hs _ => hs i x st cl hx ho
theorem Says.go {F : List In4} {fl : List Int} {i : Nat} {x : In4} {st cl st' cl' : List Int} {j : Bool} {r : Bool × Nat} (hx : F[i]? = some x) (ho : ¬ (x.op = 17 ∨ x.op = 18)) (hd : stepK fl ⟨x.op, x.n, 0⟩ st cl = some (st', cl', j)) (h : Says F fl (if j then x.to else i + 1) st' cl' r) : Says F fl i st cl r := fun P hs hg => hg i x st cl st' cl' j r hx ho hd (h P hs hg)
theorem Says.cast {F : List In4} {fl : List Int} {p q : Nat} {st cl : List Int} {r : Bool × Nat} (h : Says F fl p st cl r) (e : p = q) : Says F fl q st cl r := e ▸ h
theorem step_word {fl : List Int} {t : Tr} (hk : leafK t.k) (st cl : List Int) : stepK fl ⟨wordOp t, wordN t, 0⟩ st cl = some (wordT cl fl t :: st, cl, false) := by
  unfold leafK at hk
  unfold wordOp wordN wordT kindV stepK
  by_cases h27 : 27 ≤ t.k
  · simp [h27, show ¬ t.k = 1 by omega, show ¬ t.k = 2 by omega]
  · by_cases h22 : 22 ≤ t.k
    · simp [h27, h22, show ¬ t.k = 1 by omega, show ¬ t.k = 2 by omega]
    · by_cases h1 : t.k = 1
      · simp [h1]
      · by_cases h2 : t.k = 2
        · simp [h2]
        · simp [h27, h22, h1, h2]
theorem word_op (t : Tr) : ¬ (wordOp t = 17 ∨ wordOp t = 18) := by unfold wordOp; (repeat' split) <;> omega
theorem over_op (k : Nat) : ¬ (overOp k = 17 ∨ overOp k = 18) := by unfold overOp; (repeat' split) <;> omega
theorem step_over {fl : List Int} {k : Nat} (hk : twoK k) (a b : Int) (st cl : List Int) : stepK fl ⟨overOp k, 0, 0⟩ (b :: a :: st) cl = some (two2 k a b :: st, cl, false) := by
  unfold twoK at hk
  rcases hk with rfl | rfl | rfl | rfl | rfl | rfl | rfl <;> rfl
end Go.Proofs.YtfkdailfcmnjlaaGreatDoor

namespace Go.Proofs.YtfkdailfcmnjlaaGreatDoor
open Go Go.RowKit
set_option maxRecDepth 100000

/-- What is said behind a condition, by how it is asked. -/
def Cont (F : List In4) (fl : List Int) (m : Option Bool) (v : Int) (q T : Nat) (st cl : List Int) (r : Bool × Nat) : Prop := match m with
  | none => Says F fl q (v :: st) cl r
  | some this => (v = truthI this → Says F fl T st cl r) ∧ (v ≠ truthI this → Says F fl q st cl r)
theorem gen_says {F : List In4} {fl : List Int} {r : Bool × Nat} {jmp : Bool} (hF : FieldsT fl) (d : Nat) : ∀ {t : Tr} {k : Kn} {m : Option Bool} {p T : Nat} {st cl : List Int}, WfT d t → tyTr k.cl d t ≠ 0 → (m ≠ none → tyTr k.cl d t = 2) → LetsT k.cl cl → Sub F p (gen jmp d m t k p T) → Cont F fl m (evT cl fl d t) (p + szG jmp d m t) T st cl r → Says F fl p st cl r := by
  induction d with
  | zero => intro t k m p T st cl h; exact h.elim
  | succ d ih =>
    intro t k m p T st cl h hty hm hV hS hC
    have hkt := kids_ty h hty
    have hw := h.2
    have hev := ev_has hV hF h hty
    -- the laid value
    have LAY : ∀ {q : Nat}, Sub F p (gen jmp (d + 1) none t k p 0) → q = p + szG jmp (d + 1) none t → Says F fl q (evT cl fl (d + 1) t :: st) cl r → Says F fl p st cl r := by
      intro q hS hq hC
      subst hq
      rcases h.1 with ⟨hk, hs, _⟩ | ⟨hk, a, hs⟩ | ⟨hk, a, b, c, hs⟩ | ⟨hk, a, b, hs⟩
      · have h14 : ¬ t.k = 14 := by unfold leafK at hk; omega
        have h19 : ¬ t.k = 19 := by unfold leafK at hk; omega
        simp only [gen, szG, if_neg h14, if_neg h19, hs, List.length_nil] at hS hC
        rw [if_neg (by decide)] at hS hC
        refine .go hS.head (word_op t) (step_word hk st cl) ?_
        have e : evT cl fl (d + 1) t = wordT cl fl t := by rw [evT, hs]; rfl
        rw [e] at hC
        exact hC
      · have h14 : ¬ t.k = 14 := by omega
        simp only [gen, szG, if_neg h14, if_pos hk] at hS hC
        have e0 : t.kid 0 = a := by unfold Tr.kid; rw [hs]; rfl
        rw [e0] at hS hC
        have ha := hw a (by rw [hs]; simp)
        have hta := hkt a (by rw [hs]; simp)
        refine ih (m := none) ha hta (by simp) hV hS.left ?_
        refine .go (hS.right (gen_len _ _ _ _ _ _ _)).head (by simp) (st' := (1 - evT cl fl d a) :: st) (cl' := cl) (j := false) rfl ?_
        have e : evT cl fl (d + 1) t = 1 - evT cl fl d a := by rw [evT, hs]; rfl
        rw [e] at hC
        exact hC
      · simp only [gen, szG, if_pos hk] at hS hC
        have e0 : t.kid 0 = a := by unfold Tr.kid; rw [hs]; rfl
        have e1 : t.kid 1 = b := by unfold Tr.kid; rw [hs]; rfl
        have e2 : t.kid 2 = c := by unfold Tr.kid; rw [hs]; rfl
        rw [e0, e1, e2] at hS hC
        have ha := hw a (by rw [hs]; simp)
        have hb := hw b (by rw [hs]; simp)
        have hc := hw c (by rw [hs]; simp)
        have hta := hkt a (by rw [hs]; simp)
        have htb := hkt b (by rw [hs]; simp)
        have htc := hkt c (by rw [hs]; simp)
        have hta2 : tyTr k.cl d a = 2 := by
          rw [tyTr, hs, if_neg (by simp)] at hty
          simp only [List.map_cons, List.map_nil, overTy] at hty
          split at hty
          · rename_i g; exact g.1
          · exact absurd rfl hty
        have hva := (ev_has hV hF ha hta).2 hta2
        have e : evT cl fl (d + 1) t = if evT cl fl d a = 1 then evT cl fl d b else evT cl fl d c := by rw [evT, hs]; rfl
        rw [e] at hC
        have hSA := hS.left
        have hS1 := hS.right (gen_len _ _ _ _ _ _ _)
        have hSB := hS1.left
        have hS2 := hS1.right (gen_len _ _ _ _ _ _ _)
        have hSC := hS2.tail
        refine ih (m := some false) ha hta (fun _ => hta2) hV hSA ⟨fun g => ?_, fun g => ?_⟩
        · have g : evT cl fl d a = 0 := g
          rw [g, if_neg (by decide)] at hC
          refine ih (m := none) hc htc (by simp) hV hSC ?_
          exact Says.cast hC (by omega)
        · have g1 : evT cl fl d a = 1 := by
            rcases hva with g' | g'
            · exact absurd g' g
            · exact g'
          rw [g1, if_pos rfl] at hC
          refine ih (m := none) hb htb (by simp) hV hSB ?_
          refine .go hS2.head (by simp) (st' := evT cl fl d b :: st) (cl' := cl) (j := true) rfl ?_
          simp only [if_true]
          exact Says.cast hC (by omega)
      · have h14 : ¬ t.k = 14 := by unfold twoK at hk; omega
        have h19 : ¬ t.k = 19 := by unfold twoK at hk; omega
        have hl : t.kids.length = 2 := by rw [hs]; rfl
        simp only [gen, szG, if_neg h14, if_neg h19, if_pos hl] at hS hC
        have e0 : t.kid 0 = a := by unfold Tr.kid; rw [hs]; rfl
        have e1 : t.kid 1 = b := by unfold Tr.kid; rw [hs]; rfl
        rw [e0, e1] at hS hC
        have ha := hw a (by rw [hs]; simp)
        have hb := hw b (by rw [hs]; simp)
        have hta := hkt a (by rw [hs]; simp)
        have htb := hkt b (by rw [hs]; simp)
        have hS1 := hS.right (gen_len _ _ _ _ _ _ _)
        refine ih (m := none) ha hta (by simp) hV hS.left ?_
        refine ih (m := none) (k := ⟨tyTr k.cl d a :: k.st, k.cl⟩) hb htb (by simp) hV hS1.left ?_
        refine .go (hS1.right (gen_len _ _ _ _ _ _ _)).head (over_op _) (step_over hk _ _ _ _) ?_
        rw [ev_two hs] at hC
        exact Says.cast hC (by simp; omega)
    cases m with
    | none =>
      have hS0 : Sub F p (gen jmp (d + 1) none t k p 0) := hS
      exact LAY hS0 rfl hC
    | some this =>
      obtain ⟨hC1, hC2⟩ := hC
      have hty2 : tyTr k.cl (d + 1) t = 2 := hm (by simp)
      have hv2 := hev.2 hty2
      cases hj : byJ jmp t.k with
      | false =>
        have hgen : gen jmp (d + 1) (some this) t k p T = gen jmp (d + 1) none t k p 0 ++ ((if this then [⟨12, 0, 0, ⟨2 :: k.st, k.cl⟩⟩] else []) ++ [⟨15, 0, T, ⟨2 :: k.st, k.cl⟩⟩]) := by
          simp only [gen, hj]; rfl
        have hsz : szG jmp (d + 1) (some this) t = szG jmp (d + 1) none t + (if this then 2 else 1) := by
          simp only [szG, hj]; rfl
        rw [hgen] at hS
        rw [hsz] at hC2
        refine LAY hS.left rfl ?_
        have hS1 := hS.right (gen_len _ _ _ _ _ _ _)
        generalize evT cl fl (d + 1) t = v at *
        cases this with
        | true =>
          refine .go (Sub.head (s := [⟨15, 0, T, ⟨2 :: k.st, k.cl⟩⟩]) hS1) (by simp) (st' := (1 - v) :: st) (cl' := cl) (j := false) rfl ?_
          refine .go (Sub.head (Sub.tail (x := ⟨12, 0, 0, ⟨2 :: k.st, k.cl⟩⟩) hS1)) (by simp) (st' := st) (cl' := cl) (j := (1 - v) == 0) rfl ?_
          rcases hv2 with rfl | rfl
          · exact Says.cast (hC2 (by decide)) (by simp; try omega)
          · exact Says.cast (hC1 (by decide)) (by simp)
        | false =>
          refine .go (Sub.head (s := []) hS1) (by simp) (st' := st) (cl' := cl) (j := v == 0) rfl ?_
          rcases hv2 with rfl | rfl
          · exact Says.cast (hC1 (by decide)) (by simp)
          · exact Says.cast (hC2 (by decide)) (by simp; try omega)
      | true =>
        simp only [gen, szG, hj, if_true] at hS hC2
        rcases h.1 with ⟨hk, hs, _⟩ | ⟨hk, a, hs⟩ | ⟨hk, a, b, c, hs⟩ | ⟨hk, a, b, hs⟩
        · have h2 : t.k = 20 ∨ t.k = 21 := by
            unfold byJ at hj; unfold leafK at hk
            simp at hj; omega
          rw [if_pos h2] at hS hC2
          have e : evT cl fl (d + 1) t = truthI (decide (t.k = 20)) := by
            rcases h2 with g | g
            · rw [ev_true h g, g]; rfl
            · rw [ev_false h g, g]; rfl
          rw [e] at hC1 hC2
          by_cases g : this = decide (t.k = 20)
          · rw [if_pos g] at hS
            refine .go hS.head (by simp) (st' := st) (cl' := cl) (j := true) rfl ?_
            simp only [if_true]
            exact hC1 (by rw [g])
          · rw [if_neg g] at hC2
            exact hC2 (by revert g; cases this <;> cases decide (t.k = 20) <;> decide)
        · have h2 : ¬ (t.k = 20 ∨ t.k = 21) := by omega
          rw [if_neg h2, if_pos hk] at hS hC2
          have e0 : t.kid 0 = a := by unfold Tr.kid; rw [hs]; rfl
          rw [e0] at hS hC2
          have ha := hw a (by rw [hs]; simp)
          have hta := hkt a (by rw [hs]; simp)
          have hta2 : tyTr k.cl d a = 2 := by
            rw [tyTr, hs, if_neg (by simp)] at hty
            simp only [List.map_cons, List.map_nil, overTy] at hty
            split at hty
            · rename_i g; exact g
            · exact absurd rfl hty
          have hva := (ev_has hV hF ha hta).2 hta2
          have e : evT cl fl (d + 1) t = 1 - evT cl fl d a := by rw [evT, hs]; rfl
          rw [e] at hC1 hC2
          refine ih (m := some (!this)) ha hta (fun _ => hta2) hV hS ⟨fun g => hC1 ?_, fun g => hC2 ?_⟩
          · rw [g]; cases this <;> rfl
          · generalize evT cl fl d a = v at *
            revert g
            cases this <;> rcases hva with rfl | rfl <;> decide
        · have h2 : ¬ (t.k = 20 ∨ t.k = 21) := by omega
          have h19 : ¬ t.k = 19 := by omega
          rw [if_neg h2, if_neg h19, if_pos hk] at hS hC2
          have e0 : t.kid 0 = a := by unfold Tr.kid; rw [hs]; rfl
          have e1 : t.kid 1 = b := by unfold Tr.kid; rw [hs]; rfl
          have e2 : t.kid 2 = c := by unfold Tr.kid; rw [hs]; rfl
          rw [e0, e1, e2] at hS hC2
          have ha := hw a (by rw [hs]; simp)
          have hb := hw b (by rw [hs]; simp)
          have hc := hw c (by rw [hs]; simp)
          have hta := hkt a (by rw [hs]; simp)
          have htb := hkt b (by rw [hs]; simp)
          have htc := hkt c (by rw [hs]; simp)
          have htt : tyTr k.cl d a = 2 ∧ tyTr k.cl d b = 2 ∧ tyTr k.cl d c = 2 := by
            rw [tyTr, hs, if_neg (by simp)] at hty2
            simp only [List.map_cons, List.map_nil, overTy] at hty2
            split at hty2
            · rename_i g; exact ⟨g.1, hty2, by rw [← g.2]; exact hty2⟩
            · cases hty2
          have hva := (ev_has hV hF ha hta).2 htt.1
          have e : evT cl fl (d + 1) t = if evT cl fl d a = 1 then evT cl fl d b else evT cl fl d c := by rw [evT, hs]; rfl
          rw [e] at hC1 hC2
          have hSA := hS.left
          have hS1 := hS.right (gen_len _ _ _ _ _ _ _)
          have hSB := hS1.left
          have hS2 := hS1.right (gen_len _ _ _ _ _ _ _)
          have hSC := hS2.tail
          refine ih (m := some false) ha hta (fun _ => htt.1) hV hSA ⟨fun g => ?_, fun g => ?_⟩
          · have g : evT cl fl d a = 0 := g
            rw [g, if_neg (by decide)] at hC1 hC2
            refine ih (m := some this) hc htc (fun _ => htt.2.2) hV hSC ⟨fun g2 => hC1 g2, fun g2 => ?_⟩
            exact Says.cast (hC2 g2) (by omega)
          · have g1 : evT cl fl d a = 1 := by
              rcases hva with g' | g'
              · exact absurd g' g
              · exact g'
            rw [g1, if_pos rfl] at hC1 hC2
            refine ih (m := some this) hb htb (fun _ => htt.2.1) hV hSB ⟨fun g2 => hC1 g2, fun g2 => ?_⟩
            refine .go hS2.head (by simp) (st' := st) (cl' := cl) (j := true) rfl ?_
            simp only [if_true]
            exact Says.cast (hC2 g2) (by omega)
        · have h2 : ¬ (t.k = 20 ∨ t.k = 21) := by unfold twoK at hk; omega
          have h19 : ¬ t.k = 19 := by unfold twoK at hk; omega
          have h14 : ¬ t.k = 14 := by unfold twoK at hk; omega
          rw [if_neg h2, if_neg h19, if_neg h14] at hS hC2
          have hor : t.k = 17 ∨ t.k = 18 := by
            unfold byJ at hj; unfold twoK at hk
            simp at hj; omega
          have e0 : t.kid 0 = a := by unfold Tr.kid; rw [hs]; rfl
          have e1 : t.kid 1 = b := by unfold Tr.kid; rw [hs]; rfl
          rw [e0, e1] at hS hC2
          have ha := hw a (by rw [hs]; simp)
          have hb := hw b (by rw [hs]; simp)
          have hta := hkt a (by rw [hs]; simp)
          have htb := hkt b (by rw [hs]; simp)
          have htt : tyTr k.cl d a = 2 ∧ tyTr k.cl d b = 2 := by
            rw [ty_two hs] at hty
            simp only [overTy] at hty
            rw [if_neg (by omega), if_neg (by omega), if_neg (by omega)] at hty
            split at hty
            · rename_i g; exact g
            · exact absurd rfl hty
          have hva := (ev_has hV hF ha hta).2 htt.1
          have hvb := (ev_has hV hF hb htb).2 htt.2
          have hSB := hS.right (gen_len _ _ _ _ _ _ _)
          rw [ev_two hs] at hC1 hC2
          refine ih (m := some (decide (t.k = 17))) ha hta (fun _ => htt.1) hV hS.left ⟨fun g => ?_, fun g => ?_⟩
          · -- the left side settles it
            have ev : two2 t.k (evT cl fl d a) (evT cl fl d b) = truthI (decide (t.k = 17)) := by
              rw [g]
              rcases hor with g' | g' <;> rw [g'] <;> rcases hvb with g2 | g2 <;> rw [g2] <;> rfl
            rw [ev] at hC1 hC2
            by_cases g2 : this = decide (t.k = 17)
            · rw [if_pos g2]; exact hC1 (by rw [g2])
            · rw [if_neg g2, Nat.add_assoc]
              exact hC2 (by revert g2; cases this <;> cases decide (t.k = 17) <;> decide)
          · have ev : two2 t.k (evT cl fl d a) (evT cl fl d b) = evT cl fl d b := by
              rcases hor with g' | g' <;> rw [g'] at g ⊢ <;> rcases hva with g1 | g1 <;> rw [g1] at g ⊢ <;> rcases hvb with g2 | g2 <;> rw [g2] <;> first | rfl | (exact absurd rfl g)
            rw [ev] at hC1 hC2
            refine ih (m := some this) hb htb (fun _ => htt.2) hV hSB ⟨fun g2 => hC1 g2, fun g2 => ?_⟩
            rw [Nat.add_assoc]
            exact hC2 g2
end Go.Proofs.YtfkdailfcmnjlaaGreatDoor
