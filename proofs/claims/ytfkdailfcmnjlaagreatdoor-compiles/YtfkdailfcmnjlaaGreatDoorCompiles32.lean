/-
  What a policy says of an event: the plain function, and what is known of a text that was read. The document's Mean. The program's Mean of a policy: what it keeps from item to item. The program's Mean of a policy. The program's fields of an event in a state. The program's Mean.
-/
import Derived.Test.YtfkdailfcmnjlaaGreatDoorCompiles01
import Derived.Test.YtfkdailfcmnjlaaGreatDoorCompiles02
import Derived.Test.YtfkdailfcmnjlaaGreatDoorCompiles04
import Derived.Test.YtfkdailfcmnjlaaGreatDoorCompiles05
import Derived.Test.YtfkdailfcmnjlaaGreatDoorCompiles06
import Derived.Test.YtfkdailfcmnjlaaGreatDoorCompiles07
import Derived.Test.YtfkdailfcmnjlaaGreatDoorCompiles08
import Derived.Test.YtfkdailfcmnjlaaGreatDoorCompiles09
import Derived.Test.YtfkdailfcmnjlaaGreatDoorCompiles10
import Derived.Test.YtfkdailfcmnjlaaGreatDoorCompiles11
import Derived.Test.YtfkdailfcmnjlaaGreatDoorCompiles12
import Derived.Test.YtfkdailfcmnjlaaGreatDoorCompiles13
import Derived.Test.YtfkdailfcmnjlaaGreatDoorCompiles14
import Derived.Test.YtfkdailfcmnjlaaGreatDoorCompiles15
import Derived.Test.YtfkdailfcmnjlaaGreatDoorCompiles16
import Derived.Test.YtfkdailfcmnjlaaGreatDoorCompiles17
import Derived.Test.YtfkdailfcmnjlaaGreatDoorCompiles18
import Derived.Test.YtfkdailfcmnjlaaGreatDoorCompiles19
import Derived.Test.YtfkdailfcmnjlaaGreatDoorCompiles20
import Derived.Test.YtfkdailfcmnjlaaGreatDoorCompiles21
import Derived.Test.YtfkdailfcmnjlaaGreatDoorCompiles22
import Derived.Test.YtfkdailfcmnjlaaGreatDoorCompiles23
import Derived.Test.YtfkdailfcmnjlaaGreatDoorCompiles24
import Derived.Test.YtfkdailfcmnjlaaGreatDoorCompiles28
import Derived.Test.YtfkdailfcmnjlaaGreatDoorCompiles29
import Derived.Test.YtfkdailfcmnjlaaGreatDoorCompiles30
import Derived.Test.YtfkdailfcmnjlaaGreatDoorCompiles31
import Derived.Test.YtfkdailfcmnjlaaGreatDoorLays
import Derived.Test.YtfkdailfcmnjlaaGreatDoorLays2
import Derived.WalkKit
import Derived.Deep.QuietTactic
import Derived.BigQuiet
import Derived.WalkSpells
import GoSem.Op.String
import Derived.Deep.AppendLies
import Derived.Deep.RegionHeld3
import Derived.Deep.DrawnRows
import Derived.Deep.RegionHeldLaw
import Derived.Deep.RegionLaw
import Derived.Lib.ParseIntBCases
import Derived.Deep.OwnRows
import Derived.Lib.LaidTab
import Derived.Lib.AppendIntMem
import Derived.Shelf.Strings.Builder1
set_option linter.unusedVariables false
set_option linter.unusedSimpArgs false
namespace Go.Proofs.YtfkdailfcmnjlaaGreatDoor
open Go Go.RowKit
set_option maxRecDepth 100000

/-- The first rule that tells true, and its number. -/
def meanL (xs : List Itm) (fl : List Int) (L : List Pt) : List Itm → List Int → Nat → Option (Bool × Nat)
  | [], _, _ => none
  | x :: r, vals, n =>
    if x.name = [] then (if tellF xs vals fl L (x.top + 1) x.top = 1 then some (x.allow, n + 1) else meanL xs fl L r (vals ++ [tellF xs vals fl L (x.top + 1) x.top]) (n + 1))
    else meanL xs fl L r (vals ++ [tellF xs vals fl L (x.top + 1) x.top]) n
/-- What Mean answers of a text. -/
def meanOf (l : List UInt8) (fl : List Int) : Bool × Nat := if (readOf l).1.1 = 0 then (meanL (readOf l).2.2 fl (readOf l).2.1 (readOf l).2.2 [] 0).getD (false, 0) else (false, 0)

/-- What a text that was read gives for what it says. -/
structure MeanOK (L : List Pt) (xs : List Itm) : Prop where
  print : PrintOK L xs
  parts : PartsOK L
  names : namesAt xs L xs 0 0 = none
  types : typesAt xs L xs [] = none
theorem mean_known2 (l : List UInt8) (h0 : (readOf l).1.1 = 0) : PartsOK (readOf l).2.1 ∧ namesAt (readOf l).2.2 (readOf l).2.1 (readOf l).2.2 0 0 = none ∧ typesAt (readOf l).2.2 (readOf l).2.1 (readOf l).2.2 [] = none := by
  unfold readOf at *
  by_cases h1 : 1000 < l.length
  · rw [if_pos h1] at h0; simp at h0
  · rw [if_neg h1] at h0 ⊢
    cases hx : (lex (l.length + 1) l 0).2 with
    | some p => rw [hx] at h0; simp at h0
    | none =>
      rw [hx] at h0
      simp only [] at h0 ⊢
      have hlex : lex (l.length + 1) l 0 = ((lex (l.length + 1) l 0).1, none) := by rw [← hx]
      obtain ⟨r1, r2, r3, r4, r5⟩ := lex_ok l (by omega) (l.length + 1) 0 _ (Nat.zero_le _) (by omega) hlex
      obtain ⟨hwo, hwl⟩ := lex_words l (l.length + 1) 0 _ (Nat.zero_le _) (by omega) hlex
      generalize (lex (l.length + 1) l 0).1 = ts at *
      obtain ⟨R, hR⟩ := parse_total (F := 16 * ts.length + 8) (Nat.le_refl _) r4 (ts.length + 1) 0 [] [] (by omega)
      have e : allOf ts = R := by unfold allOf; rw [hR]; rfl
      rw [e] at h0 ⊢
      have ok : R.ok = true := by
        cases hk : R.ok with
        | true => rfl
        | false => unfold verdictOf at h0; rw [if_pos hk] at h0; simp at h0
      refine ⟨(all_known hwo (by omega) hR ok).2.1, ?_⟩
      unfold verdictOf at h0
      rw [if_neg (by rw [ok]; simp)] at h0
      cases hm : manyAt R.L R.xs 0 0 with
      | some p => rw [hm] at h0; simp at h0
      | none =>
        rw [hm] at h0
        simp only [] at h0
        cases hn : namesAt R.xs R.L R.xs 0 0 with
        | some p => rw [hn] at h0; simp at h0
        | none =>
          rw [hn] at h0
          simp only [] at h0
          cases ht : typesAt R.xs R.L R.xs [] with
          | some p => rw [ht] at h0; simp at h0
          | none => exact ⟨rfl, rfl⟩
theorem mean_known (l : List UInt8) (h0 : (readOf l).1.1 = 0) : MeanOK (readOf l).2.1 (readOf l).2.2 := by
  obtain ⟨a, b, c⟩ := mean_known2 l h0
  exact ⟨print_known l h0, a, b, c⟩

/-- At an item, with what the ones ahead told. -/
def MeanAt (xs : List Itm) (L : List Pt) (j : Nat) (vals : List Int) : Prop :=
  ∃ its fr, ValsOK its vals ∧ its.length = j ∧ TreesAt L (xs.drop j) fr ∧ namesAt xs L (xs.drop j) fr j = none ∧ typesAt xs L (xs.drop j) its = none
theorem MeanOK.start {L : List Pt} {xs : List Itm} (h : MeanOK L xs) : MeanAt xs L 0 [] :=
  ⟨[], 0, ⟨rfl, fun i hi => by simp at hi⟩, rfl, h.print.trees, h.names, h.types⟩
theorem MeanAt.item {xs : List Itm} {L : List Pt} {j : Nat} {vals : List Int} (hL : PartsOK L) (h : MeanAt xs L j vals) (hj : j < xs.length) :
    ∃ its lo, ValsOK its vals ∧ its.length = j ∧ TreeF (xs[j].top + 1) L lo xs[j].top ∧ Given xs its.length L lo (xs[j].top + 1) ∧ tyOf xs its L (xs[j].top + 1) xs[j].top ≠ 0 := by
  obtain ⟨its, fr, hV, hl, hT, hN, hY⟩ := h
  rw [List.drop_eq_getElem_cons hj] at hT hN hY
  refine ⟨its, fr, hV, hl, hT.1.fit, ?_, fun e => ?_⟩
  · rw [hl]; exact (names_given hL hT.1 hT.2.1 hN).1
  · rw [typesAt, if_pos (.inl (by rw [e]; rfl))] at hY; simp at hY
theorem MeanAt.next {xs : List Itm} {L : List Pt} {fl : List Int} {j : Nat} {vals : List Int} (hL : PartsOK L) (hP : PlainOK L) (hF : FieldsOK fl) (h : MeanAt xs L j vals) (hj : j < xs.length) :
    MeanAt xs L (j + 1) (vals ++ [tellF xs vals fl L (xs[j].top + 1) xs[j].top]) := by
  obtain ⟨its, fr, hV, hl, hT, hN, hY⟩ := h
  rw [List.drop_eq_getElem_cons hj] at hT hN hY
  obtain ⟨hg, hn2⟩ := names_given hL hT.1 hT.2.1 hN
  rw [typesAt] at hY
  by_cases hc : (tyOf xs its L (xs[j].top + 1) xs[j].top).toNat = 0 ∨ (xs[j].name = [] ∧ (tyOf xs its L (xs[j].top + 1) xs[j].top).toNat ≠ 116)
  · rw [if_pos hc] at hY; simp at hY
  · rw [if_neg hc] at hY
    refine ⟨its ++ [tyOf xs its L (xs[j].top + 1) xs[j].top], xs[j].parts, hV.snoc ?_, by simp [hl], hT.2.2, hn2, hY⟩
    refine tell_has hV hF hP.num _ hT.1.fit (by rw [hl]; exact hg) fun e => hc (.inl (by rw [e]; rfl))
theorem fields_ok (e : Ev) (s : Stt) (h1 : In64 e.need) (h2 : In64 e.when_) (h3 : In64 s.dflt) (hl : ∀ x ∈ s.levels, In64 x.2) : FieldsOK (fieldsL e s) := by
  have hfi : ∀ (ls : List (List UInt8 × Int)) (u : List UInt8), (∀ x ∈ ls, In64 x.2) → In64 (firstI s.dflt ls u) := fun ls u => by
    induction ls with
    | nil => intro _; exact h3
    | cons x r ih =>
      intro h
      rw [firstI]; split
      · exact h x (by simp)
      · exact ih fun y hy => h y (by simp [hy])
  have hkn : ∀ n : Int, In64 (knownI n) := fun n => by unfold knownI In64; split <;> omega
  have hfk : ∀ (ls : List (List UInt8 × Int)) (u : List UInt8), In64 (firstK ls u) := fun ls u => by
    induction ls with
    | nil => unfold firstK In64; omega
    | cons x r ih => rw [firstK]; split; exact hkn _; exact ih
  refine ⟨rfl, fun i hi => ?_⟩
  have e9 : i = 0 ∨ i = 1 ∨ i = 2 ∨ i = 3 ∨ i = 4 ∨ i = 5 ∨ i = 6 ∨ i = 7 ∨ i = 8 := by omega
  rcases e9 with rfl | rfl | rfl | rfl | rfl | rfl | rfl | rfl | rfl
  · exact ⟨hfi _ _ hl, fun e => absurd e (by decide)⟩
  · exact ⟨hfi _ _ hl, fun e => absurd e (by decide)⟩
  · exact ⟨h1, fun e => absurd e (by decide)⟩
  · exact ⟨h2, fun e => absurd e (by decide)⟩
  · exact ⟨hfk _ _, fun e => absurd e (by decide)⟩
  · exact ⟨hfk _ _, fun e => absurd e (by decide)⟩
  · exact ⟨hkn _, fun e => absurd e (by decide)⟩
  · exact has_truth _ _
  · exact has_truth _ _
end Go.Proofs.YtfkdailfcmnjlaaGreatDoor

namespace Go.Proofs.YtfkdailfcmnjlaaGreatDoor
open Go Go.RowKit
set_option maxRecDepth 100000
attribute [local go_sem ↓] Go.wp_at_zero Go.wp_at_succ

theorem info_i64 : (Tryz.prog.info? 2).map (fun i => (i.zero, i.size, i.bytes)) = some (some (.int .i64 0), 1, 8) := by kernel_rfl

/-- What the document's Mean finds behind 'read'. -/
def RefMean (B : Nat) (n : Nat) (fl : List Int) (r : Bool × Nat) (iv pv : Value) (w : World) : Prop :=
  (∃ a c a' b' c', iv = .slice a 0 c ∧ pv = .slice a' b' c' ∧ r = (false, 0)) ∨
  n = 0 ∧ ∃ gi c g cap ps xs, iv = .slice (some ⟨gi, 0, none⟩) xs.length c ∧ pv = .slice (some ⟨g, 0, none⟩) ps.length cap ∧ ItemsIn B iv xs w ∧ PartsIn B g cap ps w ∧ (∀ p ∈ ps, p.n = numOf p.tok) ∧ MeanOK (ps.map toPt) xs ∧ r = (meanL xs fl (ps.map toPt) xs [] 0).getD (false, 0)
theorem ref_mean (l : List UInt8) (fl : List Int) {w w' : World} {e : Ending} (h : ReadAns (readOf l).1.1 (readOf l).1.2 (readOf l).2.1 (readOf l).2.2 w e w') :
    Below w.heap.size w w' ∧ ∃ iv pv, e = .returned (.tuple #[.agg #[iv, pv], .int .i64 (readOf l).1.1, .int .i64 (readOf l).1.2]) ∧ RefMean w.heap.size (readOf l).1.1 fl (meanOf l fl) iv pv w' := by
  obtain ⟨hb, iv, pv, rfl, ⟨a, b, c, rfl⟩, ⟨a', b', c', rfl⟩, h1, h2⟩ := h
  refine ⟨hb, _, _, rfl, ?_⟩
  by_cases h0 : (readOf l).1.1 = 0
  · have hk := mean_known l h0
    have ht : meanOf l fl = (meanL (readOf l).2.2 fl (readOf l).2.1 (readOf l).2.2 [] 0).getD (false, 0) := by unfold meanOf; rw [if_pos h0]
    obtain ⟨hI, ps, hrow, hsub, hfew, hnum, hps⟩ := h2 h0
    rw [ht]
    generalize (readOf l).2.2 = xs at *
    rw [← hps] at hk ⊢
    cases hxs : xs with
    | nil =>
      subst hxs
      refine .inl ⟨a, c, a', b', c', ?_, rfl, rfl⟩
      rcases hI.form with ⟨e, _⟩ | ⟨gi, c1, e⟩
      · simp only [Value.slice.injEq] at e; rw [e.2.1]
      · simp only [Value.slice.injEq] at e; rw [e.2.1]; rfl
    | cons x r =>
      refine .inr ⟨h0, ?_⟩
      rw [← hxs]
      have hx0 : xs.length ≠ 0 := by rw [hxs]; simp
      have htr := hk.print.trees
      rw [hxs] at htr
      have htop := htr.1.fit.lt
      rcases hI.form with ⟨_, e⟩ | ⟨gi, c1, e⟩
      · exact absurd e hx0
      · rcases hrow.2 with ⟨_, e2⟩ | ⟨g, cap, cur, e2, _⟩
        · rw [List.length_map] at htop; omega
        · exact ⟨gi, c1, g, cap, ps, xs, e, e2, hI, ⟨e2 ▸ hrow, hsub, hfew⟩, hnum, hk, rfl⟩
  · obtain ⟨e1, e2⟩ := h1 h0
    refine .inl ⟨none, 0, a', b', c', e1, rfl, ?_⟩
    unfold meanOf; rw [if_neg h0]
def verV (r : Bool × Nat) : Value := .agg #[.bool r.1, .int .i64 r.2, .int .i64 0]

theorem ver_cells {w : World} {b : Nat} {x0 x1 x2 : Value} (h : w.heap[b]? = some (.cells #[x0, x1, x2] 40 (0, 0))) : (w.cell? ⟨b, 0, none⟩ = some x0 ∧ w.cell? ⟨b, 1, none⟩ = some x1 ∧ w.cell? ⟨b, 2, none⟩ = some x2) ∧ ∀ j, w.frozen? ⟨b, j, none⟩ = false := by
  have hc := fun j => cell_of_row w b j _ _ _ h
  exact ⟨⟨hc 0, hc 1, hc 2⟩, fun j => by simp [World.frozen?, h]⟩
set_option maxHeartbeats 8000000 in
theorem mean_ref {lv mv : Value} (l : List UInt8) (e : Ev) (s : Stt) (w : World) (hm : l.length ≤ maxLen) (h1 : PairsAt lv s.levels w) (h2 : PairsAt mv s.members w) (hw : In64 e.wants) (hF : FieldsOK (fieldsL e s)) :
    Calls Tryz.prog 19 #[S l, evV e, sttV lv mv s] w fun en w' => en = .returned (.tuple #[verV (meanOf l (fieldsL e s)), .int .i64 (readOf l).1.1]) ∧ Below w.heap.size w w' := by
  have HRD := fun W => (read_any l W hm).mono fun e' w' h => ref_mean l (fieldsL e s) h
  have HFD := fun W (hb : Below w.heap.size w W) => fields_ref e s W (h1.below hb) (h2.below hb) hw
  have HVV : Hid (verV = fun r => .agg #[.bool r.1, .int .i64 r.2, .int .i64 0]) := rfl
  clear hm hw
  have hol : lv.oneCell' = true := by obtain ⟨_, a, c, rfl, _⟩ := h1; rfl
  have hom : mv.oneCell' = true := by obtain ⟨_, a, c, rfl, _⟩ := h2; rfl
  clear h1 h2
  generalize fieldsL e s = fl at *
  generalize (readOf l).1.1 = n at *
  generalize (readOf l).1.2 = k at *
  generalize meanOf l fl = r at *
  unfold evV sttV at *
  obtain ⟨sn, tg, wa, nd, wh⟩ := e
  obtain ⟨ls, df, ms, op⟩ := s
  simp only [] at *
  have hB0 : Below w.heap.size w (((w.alloc (.cells #[S sn, S tg, .int .i64 wa, .int .i64 nd, .int .i64 wh] 46)).alloc (.cells #[lv, .int .i64 df, mv, .bool op] 50)).alloc (.cells #[.bool false, .int .i64 0, .int .i64 0] 40)) := (((Below.refl _ _).alloc (Nat.le_refl _) _).alloc (by simp) _).alloc (by simp; omega) _
  have hE0 : (((w.alloc (.cells #[S sn, S tg, .int .i64 wa, .int .i64 nd, .int .i64 wh] 46)).alloc (.cells #[lv, .int .i64 df, mv, .bool op] 50)).alloc (.cells #[.bool false, .int .i64 0, .int .i64 0] 40)).heap[w.heap.size]? = some (.cells #[S sn, S tg, .int .i64 wa, .int .i64 nd, .int .i64 wh] 46 (0, 0)) := by rw [Below.heap_alloc _ _ _ (by simp; omega), Below.heap_alloc _ _ _ (by simp)]; exact heap_alloc_new w _
  have hS0 : (((w.alloc (.cells #[S sn, S tg, .int .i64 wa, .int .i64 nd, .int .i64 wh] 46)).alloc (.cells #[lv, .int .i64 df, mv, .bool op] 50)).alloc (.cells #[.bool false, .int .i64 0, .int .i64 0] 40)).heap[w.heap.size + 1]? = some (.cells #[lv, .int .i64 df, mv, .bool op] 50 (0, 0)) := by
    rw [Below.heap_alloc _ _ _ (by simp)]
    have e := heap_alloc_new (w.alloc (.cells #[S sn, S tg, .int .i64 wa, .int .i64 nd, .int .i64 wh] 46)) (.cells #[lv, .int .i64 df, mv, .bool op] 50); rw [World.size_alloc] at e; exact e
  have hV0 : (((w.alloc (.cells #[S sn, S tg, .int .i64 wa, .int .i64 nd, .int .i64 wh] 46)).alloc (.cells #[lv, .int .i64 df, mv, .bool op] 50)).alloc (.cells #[.bool false, .int .i64 0, .int .i64 0] 40)).heap[w.heap.size + 1 + 1]? = some (.cells #[.bool false, .int .i64 0, .int .i64 0] 40 (0, 0)) := by
    have e := heap_alloc_new ((w.alloc (.cells #[S sn, S tg, .int .i64 wa, .int .i64 nd, .int .i64 wh] 46)).alloc (.cells #[lv, .int .i64 df, mv, .bool op] 50)) (.cells #[.bool false, .int .i64 0, .int .i64 0] 40); rw [World.size_alloc, World.size_alloc] at e; exact e
  have H0 : Hid _ := And.intro hB0 (And.intro hE0 (And.intro hS0 hV0))
  clear hB0 hE0 hS0 hV0
  go_enter Tryz.func19, Tryz.ntmps19
  go_wp2_with fail
  obtain ⟨hB0, hE0, hS0, hV0⟩ := H0.out
  clear H0
  generalize (((w.alloc (.cells #[S sn, S tg, .int .i64 wa, .int .i64 nd, .int .i64 wh] 46)).alloc (.cells #[lv, .int .i64 df, mv, .bool op] 50)).alloc (.cells #[.bool false, .int .i64 0, .int .i64 0] 40)) = wz at *
  refine (HRD _).mono ?_
  rintro e' w1 ⟨hb1, iv, pv, rfl, hA⟩
  clear HRD
  have hB1 := hB0.trans (hb1.mono hB0.size)
  have hSz : Hid (wz.heap.size ≤ w1.heap.size) := hb1.size
  have hE1 := (hb1.block _ (lt_of_get hE0)).trans hE0
  have hS1 := (hb1.block _ (lt_of_get hS0)).trans hS0
  have hV1 := (hb1.block _ (lt_of_get hV0)).trans hV0
  obtain ⟨ia, ib, ic, hiv⟩ : ∃ a b c, iv = .slice a b c := by
    rcases hA with ⟨a, c, a', b', c', h, _⟩ | ⟨_, gi, c, g, cap, ps, xs, h, _⟩ <;> exact ⟨_, _, _, h⟩
  obtain ⟨pa, pb, pc, hpv⟩ : ∃ a b c, pv = .slice a b c := by
    rcases hA with ⟨a, c, a', b', c', _, h, _⟩ | ⟨_, gi, c, g, cap, ps, xs, _, h, _⟩ <;> exact ⟨_, _, _, h⟩
  subst hiv hpv
  have hb2 : Below w1.heap.size w1 (w1.alloc (.cells #[.slice ia ib ic, .slice pa pb pc] 90)) := (Below.refl _ _).alloc (Nat.le_refl _) _
  have hB2 := hB1.trans (hb2.mono hB1.size)
  have hE2 := (hb2.block _ (lt_of_get hE1)).trans hE1
  have hS2 := (hb2.block _ (lt_of_get hS1)).trans hS1
  have hV2 := (hb2.block _ (lt_of_get hV1)).trans hV1
  have hP2 : (w1.alloc (.cells #[.slice ia ib ic, .slice pa pb pc] 90)).heap[w1.heap.size]? = some (.cells #[.slice ia ib ic, .slice pa pb pc] 90 (0, 0)) := heap_alloc_new w1 _
  have W2 := HFD _ hB2
  have HA : Hid (RefMean wz.heap.size n fl r (.slice ia ib ic) (.slice pa pb pc) w1) := hA
  have H2 : Hid _ := And.intro hB2 (And.intro hV2 (And.intro hP2 hb2))
  have c0 := cell_of_row w1 w.heap.size 0 _ _ _ hE1
  have c1 := cell_of_row w1 w.heap.size 1 _ _ _ hE1
  have c2 := cell_of_row w1 w.heap.size 2 _ _ _ hE1
  have c3 := cell_of_row w1 w.heap.size 3 _ _ _ hE1
  have c4 := cell_of_row w1 w.heap.size 4 _ _ _ hE1
  have d0 := cell_of_row w1 (w.heap.size + 1) 0 _ _ _ hS1
  have d1 := cell_of_row w1 (w.heap.size + 1) 1 _ _ _ hS1
  have d2 := cell_of_row w1 (w.heap.size + 1) 2 _ _ _ hS1
  have d3 := cell_of_row w1 (w.heap.size + 1) 3 _ _ _ hS1
  simp only [List.getElem?_toArray, List.getElem?_cons_zero, List.getElem?_cons_succ] at c0 c1 c2 c3 c4 d0 d1 d2 d3
  have ne1 : w.heap.size < w1.heap.size := lt_of_get hE1
  have ne2 : w.heap.size + 1 < w1.heap.size := lt_of_get hS1
  have ne3 : w1.heap.size ≠ w.heap.size := by omega
  have ne4 : w1.heap.size ≠ w.heap.size + 1 := by omega
  have ne5 : w.heap.size ≠ w1.heap.size := by omega
  have ne6 : w.heap.size + 1 ≠ w1.heap.size := by omega
  clear hA hB2 hV2 hP2 hb2 hE2 hS2 hB0 hE0 hS0 hV0 hb1 hB1 hE1 hS1 hV1 HFD
  go_wp2_with fail
  refine W2.mono ?_
  rintro e' w2 ⟨⟨gf, rfl, hfl⟩, hb3⟩
  clear W2 c0 c1 c2 c3 c4 d0 d1 d2 d3
  obtain ⟨hB2, hV2, hP2, hb2⟩ := H2.out
  have hB3 := hB2.trans (hb3.mono hB2.size)
  have hV3 := (hb3.block _ (lt_of_get hV2)).trans hV2
  have hP3 := (hb3.block _ (lt_of_get hP2)).trans hP2
  have hb4 : Below w1.heap.size w1 w2 := hb2.trans (hb3.mono hb2.size)
  clear H2 hB2 hV2 hP2 hb2 hb3
  rcases HA.out with ⟨a, c, a', b', c', e1, e2, hr⟩ | ⟨hn0, gi, c, g, cap, ps, xs, e1, e2, hI, hP, hnum, hk, hr⟩
  · cases e1
    cases e2
    subst hr
    clear HA hb4 hfl
    have HB : Hid _ := hB3
    have p0 := cell_of_row w2 w1.heap.size 0 _ _ _ hP3
    simp only [List.getElem?_toArray, List.getElem?_cons_zero, List.getElem?_cons_succ] at p0
    obtain ⟨⟨v0, v1, v2⟩, vf⟩ := ver_cells hV3
    go_wp2_with fail
    go_loop [12, 13, 14] (fun rl it i => rl = .int .i64 0 ∧ it = .slice none 0 0 ∧ i = .int .i64 0) (fun _ _ _ => 0)
    case atStart => exact ⟨rfl, rfl, rfl⟩
    case round =>
      obtain ⟨rfl, rfl, rfl⟩ := hrel
      go_wp2_with fail
      refine bodyPost_ret (v := .tuple #[.agg #[.bool false, .int .i64 0, .int .i64 0], .int .i64 n]) (by simp [results, Tryz.results19, go_sem, v0, v1, v2, vf]) rfl ?_
      exact ⟨rfl, ((HB.out.setCell (by simp; omega) _).setCell (by simp; omega) _).setCell (by simp; omega) _⟩
  · cases e1
    cases e2
    have hI2 := hI.below hb4
    have hP2 := hP.below hb4
    have hfew := hI2.few
    have hpfew := hP2.few
    have HI2 : Hid (ItemsIn wz.heap.size (.slice (some ⟨gi, 0, none⟩) xs.length ic) xs w2) := hI2
    have HP2 : Hid (PartsIn wz.heap.size g pc ps w2) := hP2
    have HFL : Hid (∀ i, i < 9 → w2.cell? ⟨gf, i, none⟩ = some (.int .i64 (fl.getD i 0))) := hfl
    have HNUM : Hid _ := hnum
    have HK : Hid _ := hk
    have HR : Hid _ := hr
    have HWZ : Hid (wz.heap.size ≤ w2.heap.size) := by
      show _ ≤ _
      have := hb4.size
      exact Nat.le_trans (hSz.out) this
    have HB3 : Hid _ := hB3
    have HV3 : Hid _ := hV3
    have HP3 : Hid _ := hP3
    have HF : Hid (FieldsOK fl) := hF
    obtain ⟨i0, hi, hz0, hz1, hz2⟩ := info_parts info_i64
    subst hn0
    clear HA hb4 hfl hI hP hI2 hP2 hnum hk hr hB3 hV3 hP3 hF
    go_wp2_with fail
    go_loopw [12, 13, 14] (fun rl it i wr => ∃ (j rule : Nat) (vals : List Int), j ≤ xs.length ∧ rule ≤ j ∧ vals.length = j ∧ rl = .int .i64 rule ∧ i = .int .i64 j ∧ Hid (MeanAt xs (ps.map toPt) j vals) ∧ Hid (meanL xs fl (ps.map toPt) xs [] 0 = meanL xs fl (ps.map toPt) (xs.drop j) vals rule) ∧ wr.ownsRow w2.heap.size 2 1 it vals.length (intCells vals) ∧ Below w2.heap.size w2 wr) (fun _ _ i _ => xs.length - (intOf i).toNat)
    case atStart => exact ⟨0, 0, [], Nat.zero_le _, Nat.le_refl _, rfl, rfl, rfl, HK.out.start, rfl, World.ownsRow_nil _ _ _ _, Below.refl _ _⟩
    case round =>
      obtain ⟨j, rule, vals, hj, hrj, hvj, rfl, rfl, HM, HL, hown, hbw⟩ := hrel
      have hVw := (hbw.block _ (lt_of_get HV3.out)).trans HV3.out
      have hPw := (hbw.block _ (lt_of_get HP3.out)).trans HP3.out
      have p0 := cell_of_row wr w1.heap.size 0 _ _ _ hPw
      have p1 := cell_of_row wr w1.heap.size 1 _ _ _ hPw
      simp only [List.getElem?_toArray, List.getElem?_cons_zero, List.getElem?_cons_succ] at p0 p1
      have hBw : Below w.heap.size w wr := HB3.out.trans (hbw.mono HB3.out.size)
      by_cases hlt : j < xs.length
      · obtain ⟨its, lo, hV, hil, hTF, hGv, hTy⟩ := HM.out.item HK.out.parts hlt
        have HNX : Hid _ := HM.out.next HK.out.parts HK.out.print.parts HF.out hlt
        have hTel : TelIn wz.heap.size gi ic g pc gf xs ps _ vals fl wr := ⟨HI2.out.below hbw, HP2.out.below hbw, ownsRow_weak hown HWZ.out, by omega, fun i hi => by rw [hbw.cell (p := ⟨gf, i, none⟩) (World.block_lt_of_cell? w2 _ (HFL.out i hi))]; exact HFL.out i hi⟩
        obtain ⟨c0, c1, c2, c3, c4, c5⟩ := hTel.items.cells j hlt
        have WT := tells_any hV HF.out HK.out.print.parts HNUM.out (xs[j].top + 1) hTF hGv hTy (hTel.below (Below.refl wr.heap.size wr).drew)
        have HST : Hid (meanL xs fl (ps.map toPt) (xs.drop j) vals rule = if xs[j].name = [] then (if tellF xs vals fl (ps.map toPt) (xs[j].top + 1) xs[j].top = 1 then some (xs[j].allow, rule + 1) else meanL xs fl (ps.map toPt) (xs.drop (j + 1)) (vals ++ [tellF xs vals fl (ps.map toPt) (xs[j].top + 1) xs[j].top]) (rule + 1)) else meanL xs fl (ps.map toPt) (xs.drop (j + 1)) (vals ++ [tellF xs vals fl (ps.map toPt) (xs[j].top + 1) xs[j].top]) rule) := by
          show _ = _; rw [List.drop_eq_getElem_cons hlt, meanL]
        have htop := hTF.lt
        rw [List.length_map] at htop
        have b1 : (0 : Int) ≤ (j : Int) := by omega
        have b2 : (j : Int) < (xs.length : Int) := by omega
        have lgi := World.block_lt_of_cell? wr _ c0
        simp only at lgi
        generalize tellF xs vals fl (ps.map toPt) (xs[j].top + 1) xs[j].top = tv at *
        have HTEL : Hid _ := hTel
        clear hV hil hTF hGv hTy hTel
        have KF : Hid (∀ w', Below wr.heap.size wr.drew w' → (w'.cell? ⟨w1.heap.size, 0, none⟩ = some (.slice (some ⟨gi, 0, none⟩) xs.length ic) ∧ w'.cell? ⟨w1.heap.size, 1, none⟩ = some (.slice (some ⟨g, 0, none⟩) ps.length pc) ∧ w'.cell? ⟨gi, j * 6 + 2, none⟩ = some (.int .i64 xs[j].top))) := fun w' h => by
          rw [h.cell (p := ⟨w1.heap.size, 0, none⟩) (lt_of_get hPw), h.cell (p := ⟨w1.heap.size, 1, none⟩) (lt_of_get hPw), h.cell (p := ⟨gi, j * 6 + 2, none⟩) lgi]
          exact ⟨p0, p1, c2⟩
        have HC2 : Hid (∀ w', Below w2.heap.size w2 w' → (w'.cell? ⟨w1.heap.size, 0, none⟩ = some (.slice (some ⟨gi, 0, none⟩) xs.length ic) ∧ w'.cell? ⟨w1.heap.size, 1, none⟩ = some (.slice (some ⟨g, 0, none⟩) ps.length pc) ∧ w'.cell? ⟨gi, j * 6, none⟩ = some (S xs[j].name) ∧ w'.cell? ⟨gi, j * 6 + 1, none⟩ = some (.bool xs[j].allow))) := fun w' h => by
          have hP' := (h.block _ (lt_of_get HP3.out)).trans HP3.out
          obtain ⟨d0, d1, _⟩ := (HI2.out.below h).cells j hlt
          exact ⟨cell_of_row w' w1.heap.size 0 _ _ _ hP', cell_of_row w' w1.heap.size 1 _ _ _ hP', d0, d1⟩
        clear hPw hVw HTEL
        generalize xs[j] = x at *
        by_cases hnm : x.name = []
        · have n1 : (x.name == []) = true := by simpa using hnm
          have n2 : (x.name != []) = false := by simpa using hnm
          by_cases htv : tv = 1
          · subst htv
            have HE : Hid (r = (x.allow, rule + 1)) := by show _ = _; rw [HR.out, HL.out, HST.out, if_pos hnm, if_pos rfl]; rfl
            have HBw : Hid _ := hBw
            clear hnm HST hBw
            go_wp2_with fail
            go_region_held3 (fun w' => w'.cell? ⟨w1.heap.size, 0, none⟩ = some (.slice (some ⟨gi, 0, none⟩) xs.length ic) ∧ w'.cell? ⟨w1.heap.size, 1, none⟩ = some (.slice (some ⟨g, 0, none⟩) ps.length pc) ∧ w'.cell? ⟨gi, j * 6 + 2, none⟩ = some (.int .i64 x.top)) (first | exact KF.out _ hb5 | go_keep) ((go_at_call 42; refine WT.mono ?_; rintro e w5 ⟨rfl, hb5⟩))
            rename_i hHeld
            clear hHeld
            have hb6 : Below wr.heap.size wr w5 := (Below.refl _ _).drew.trans hb5
            have hB5 : Below w2.heap.size w2 w5 := hbw.trans (hb6.mono hbw.size)
            have hown5 := ownsRow_below hown hb6
            have hs5 := hB5.size
            clear hown p0 p1 hb5 hb6 KF WT c0 c1 c2 c3 c4 c5
            go_wp2_with (
              at_builtin
              go_must (refine wpList_append_lies _ (by rfl) _ _ 116 (by rfl) w2.heap.size 2 i0 (.int .i64 0) 1 8 Tryz.underlying116 hi hz0 hz1 hz2 (by rfl) (by decide) _ _ _ (by rfl) (hown5.alloc _) ⟨w5.heap.size, 0, none⟩ 1 1 [.int .i64 1] (by rfl) (by rfl) (World.news_of_block (heap_alloc_new w5 _)) (fun x hx => by simp at hx; rcases hx with rfl; rfl) (by decide) (by unfold maxLen; omega) (by omega) (by simp; omega) _ rfl ?_)
              intro g3 cap3 w3 hown3 hgrow3 hat hlt3
              have hB6 := below_far1 hB5 hown5 hgrow3
              obtain ⟨p0, p1, c0, c1⟩ := HC2.out w3 hB6
              obtain ⟨⟨v0, v1, v2⟩, vf⟩ := ver_cells ((hB6.block _ (lt_of_get HV3.out)).trans HV3.out)
              have HB6 : Hid _ := hB6
              have HO3 : Hid _ := hown3
              clear hB6 hown3 hgrow3)
            have HB7 : Hid (Below w.heap.size w w3) := HB3.out.trans (HB6.out.mono HB3.out.size)
            refine bodyPost_ret (v := .tuple #[.agg #[.bool x.allow, .int .i64 ((rule : Int) + 1), .int .i64 0], .int .i64 0]) (by simp [results, Tryz.results19, go_sem, v0, v1, v2, vf]) rfl ?_
            exact ⟨by rw [HE.out]; rfl, ((HB7.out.setCell (by simp; omega) _).setCell (by simp; omega) _).setCell (by simp; omega) _⟩
          · have t1 : (tv == 1) = false := by simpa using htv
            have HST2 : Hid (meanL xs fl (ps.map toPt) (xs.drop j) vals rule = meanL xs fl (ps.map toPt) (xs.drop (j + 1)) (vals ++ [tv]) (rule + 1)) := by show _ = _; rw [HST.out, if_pos hnm, if_neg htv]
            clear hnm htv HST hBw
            go_wp2_with fail
            go_region_held3 (fun w' => w'.cell? ⟨w1.heap.size, 0, none⟩ = some (.slice (some ⟨gi, 0, none⟩) xs.length ic) ∧ w'.cell? ⟨w1.heap.size, 1, none⟩ = some (.slice (some ⟨g, 0, none⟩) ps.length pc) ∧ w'.cell? ⟨gi, j * 6 + 2, none⟩ = some (.int .i64 x.top)) (first | exact KF.out _ hb5 | go_keep) ((go_at_call 42; refine WT.mono ?_; rintro e w5 ⟨rfl, hb5⟩))
            rename_i hHeld
            clear hHeld
            have hb6 : Below wr.heap.size wr w5 := (Below.refl _ _).drew.trans hb5
            have hB5 : Below w2.heap.size w2 w5 := hbw.trans (hb6.mono hbw.size)
            have hown5 := ownsRow_below hown hb6
            have hs5 := hB5.size
            clear hown p0 p1 hb5 hb6 KF WT c0 c1 c2 c3 c4 c5
            go_wp2_with (
              at_builtin
              go_must (refine wpList_append_lies _ (by rfl) _ _ 116 (by rfl) w2.heap.size 2 i0 (.int .i64 0) 1 8 Tryz.underlying116 hi hz0 hz1 hz2 (by rfl) (by decide) _ _ _ (by rfl) (hown5.alloc _) ⟨w5.heap.size, 0, none⟩ 1 1 [.int .i64 tv] (by rfl) (by rfl) (World.news_of_block (heap_alloc_new w5 _)) (fun x hx => by simp at hx; rcases hx with rfl; rfl) (by decide) (by unfold maxLen; omega) (by omega) (by simp; omega) _ rfl ?_)
              intro g3 cap3 w3 hown3 hgrow3 hat hlt3
              have hB6 := below_far1 hB5 hown5 hgrow3
              obtain ⟨p0, p1, c0, c1⟩ := HC2.out w3 hB6
              obtain ⟨⟨v0, v1, v2⟩, vf⟩ := ver_cells ((hB6.block _ (lt_of_get HV3.out)).trans HV3.out)
              have HB6 : Hid _ := hB6
              have HO3 : Hid _ := hown3
              clear hB6 hown3 hgrow3)
            go_roundw
            case rel =>
              refine ⟨j + 1, rule + 1, vals ++ [tv], by omega, by omega, by simp; omega, by simp, by simp, HNX.out, ?_, ?_, HB6.out⟩
              · show _ = _
                rw [HL.out]; exact HST2.out
              · have e7 : intCells (vals ++ [tv]) = intCells vals ++ [.int .i64 tv] := by simp [intCells]
                have e8 : (vals ++ [tv]).length = vals.length + 1 := by simp
                rw [e7, e8]
                subst hvj
                exact HO3.out
            case measure => simp [intOf]; omega
        · have n1 : (x.name == []) = false := by simpa using hnm
          have n2 : (x.name != []) = true := by simpa using hnm
          have HST2 : Hid (meanL xs fl (ps.map toPt) (xs.drop j) vals rule = meanL xs fl (ps.map toPt) (xs.drop (j + 1)) (vals ++ [tv]) rule) := by show _ = _; rw [HST.out, if_neg hnm]
          clear hnm HST hBw
          go_wp2_with fail
          go_region_held3 (fun w' => w'.cell? ⟨w1.heap.size, 0, none⟩ = some (.slice (some ⟨gi, 0, none⟩) xs.length ic) ∧ w'.cell? ⟨w1.heap.size, 1, none⟩ = some (.slice (some ⟨g, 0, none⟩) ps.length pc) ∧ w'.cell? ⟨gi, j * 6 + 2, none⟩ = some (.int .i64 x.top)) (first | exact KF.out _ hb5 | go_keep) ((go_at_call 42; refine WT.mono ?_; rintro e w5 ⟨rfl, hb5⟩))
          rename_i hHeld
          clear hHeld
          have hb6 : Below wr.heap.size wr w5 := (Below.refl _ _).drew.trans hb5
          have hB5 : Below w2.heap.size w2 w5 := hbw.trans (hb6.mono hbw.size)
          have hown5 := ownsRow_below hown hb6
          have hs5 := hB5.size
          clear hown p0 p1 hb5 hb6 KF WT c0 c1 c2 c3 c4 c5
          go_wp2_with (
            at_builtin
            go_must (refine wpList_append_lies _ (by rfl) _ _ 116 (by rfl) w2.heap.size 2 i0 (.int .i64 0) 1 8 Tryz.underlying116 hi hz0 hz1 hz2 (by rfl) (by decide) _ _ _ (by rfl) (hown5.alloc _) ⟨w5.heap.size, 0, none⟩ 1 1 [.int .i64 tv] (by rfl) (by rfl) (World.news_of_block (heap_alloc_new w5 _)) (fun x hx => by simp at hx; rcases hx with rfl; rfl) (by decide) (by unfold maxLen; omega) (by omega) (by simp; omega) _ rfl ?_)
            intro g3 cap3 w3 hown3 hgrow3 hat hlt3
            have hB6 := below_far1 hB5 hown5 hgrow3
            obtain ⟨p0, p1, c0, c1⟩ := HC2.out w3 hB6
            obtain ⟨⟨v0, v1, v2⟩, vf⟩ := ver_cells ((hB6.block _ (lt_of_get HV3.out)).trans HV3.out)
            have HB6 : Hid _ := hB6
            have HO3 : Hid _ := hown3
            clear hB6 hown3 hgrow3)
          go_roundw
          case rel =>
            refine ⟨j + 1, rule, vals ++ [tv], by omega, by omega, by simp; omega, by simp, by simp, HNX.out, ?_, ?_, HB6.out⟩
            · show _ = _
              rw [HL.out]; exact HST2.out
            · have e7 : intCells (vals ++ [tv]) = intCells vals ++ [.int .i64 tv] := by simp [intCells]
              have e8 : (vals ++ [tv]).length = vals.length + 1 := by simp
              rw [e7, e8]
              subst hvj
              exact HO3.out
          case measure => simp [intOf]; omega
      · have hje : j = xs.length := by omega
        subst hje
        have HE : Hid (r = (false, 0)) := by
          show _ = _
          rw [HR.out, HL.out, List.drop_length]; rfl
        obtain ⟨⟨v0, v1, v2⟩, vf⟩ := ver_cells hVw
        have HB : Hid _ := hBw
        clear hown hbw hVw hPw hBw HM HL
        go_wp2_with fail
        refine bodyPost_ret (v := .tuple #[.agg #[.bool false, .int .i64 0, .int .i64 0], .int .i64 0]) (by simp [results, Tryz.results19, go_sem, v0, v1, v2, vf]) rfl ?_
        exact ⟨by rw [HE.out]; rfl, ((HB.out.setCell (by simp; omega) _).setCell (by simp; omega) _).setCell (by simp; omega) _⟩
end Go.Proofs.YtfkdailfcmnjlaaGreatDoor

namespace Go.Proofs.YtfkdailfcmnjlaaGreatDoor
open Go Go.RowKit
set_option maxRecDepth 100000

theorem fields_t {fl : List Int} (h : FieldsOK fl) : FieldsT fl := fun n hn => by
  have h1 := h.has n (by omega)
  refine ⟨h1.1, fun e => h1.2 ?_⟩
  have : n = 0 ∨ n = 1 ∨ n = 2 ∨ n = 3 ∨ n = 4 ∨ n = 5 ∨ n = 6 ∨ n = 7 ∨ n = 8 := by omega
  rcases this with rfl | rfl | rfl | rfl | rfl | rfl | rfl | rfl | rfl <;> first | rfl | (exfalso; revert e; decide)
theorem tcode_two {c : UInt8} (h : tcode c = 2) : c = 116 := by
  unfold tcode at h
  split at h
  · simp at h
  · split at h
    · rename_i e; exact UInt8.toNat_inj.1 e
    · split at h <;> simp at h
theorem lets_has : ∀ (xs : List Itm) (its : List UInt8) (vals : List Int), vals.length = its.length → (∀ i, i < its.length → Has (its.getD i 0) (vals.getD i 0)) → LetsT (letTys xs its) (letVals xs vals)
  | [], its, vals, _, _ => fun i hi => by cases its <;> simp [letTys] at hi
  | x :: xs, [], vals, _, _ => fun i hi => by simp [letTys] at hi
  | x :: xs, c :: its, [], h, _ => by simp at h
  | x :: xs, c :: its, v :: vals, h, hh => by
    have ih := lets_has xs its vals (by simpa using h) fun i hi => by have := hh (i + 1) (by simpa using hi); simpa using this
    rw [letTys, letVals]
    split
    · exact ih
    · intro i hi
      cases i with
      | zero =>
        have h0 := hh 0 (by simp)
        simp only [List.getD_cons_zero] at h0 ⊢
        exact ⟨h0.1, fun e => h0.2 (tcode_two e)⟩
      | succ i => rw [List.getD_cons_succ] at hi ⊢; rw [List.getD_cons_succ]; exact ih i hi

/-- At an item, with what the ones ahead told, and their types. -/
def MeanAt2 (xs : List Itm) (L : List Pt) (j : Nat) (vals : List Int) : Prop :=
  ∃ its fr, ValsOK its vals ∧ its.length = j ∧ TreesAt L (xs.drop j) fr ∧ namesAt xs L (xs.drop j) fr j = none ∧ typesAt xs L (xs.drop j) its = none ∧ ∀ c ∈ its, isTy c
/-- What there is for an item. -/
structure ItemOK (xs : List Itm) (L : List Pt) (fl : List Int) (j : Nat) (vals : List Int) (lt : List Nat) : Prop where
  tree : ∃ lo, TreeF ((xs.getD j noItm).top + 1) L lo (xs.getD j noItm).top
  wf : WfT ((xs.getD j noItm).top + 1) (toTr (idx (giv xs)) L ((xs.getD j noItm).top + 1) (xs.getD j noItm).top)
  ty : tyTr lt ((xs.getD j noItm).top + 1) (toTr (idx (giv xs)) L ((xs.getD j noItm).top + 1) (xs.getD j noItm).top) ≠ 0
  ev : evT (letVals (xs.take j) vals) fl ((xs.getD j noItm).top + 1) (toTr (idx (giv xs)) L ((xs.getD j noItm).top + 1) (xs.getD j noItm).top) = tellF xs vals fl L ((xs.getD j noItm).top + 1) (xs.getD j noItm).top
  lets : LetsT lt (letVals (xs.take j) vals)
  len : lt.length ≤ (letVals (xs.take j) vals).length
theorem MeanAt2.item {xs : List Itm} {L : List Pt} {fl : List Int} {j : Nat} {vals : List Int} (hL : PartsOK L) (hP : PlainOK L) (h : MeanAt2 xs L j vals) (hj : j < xs.length) : (∃ lt, ItemOK xs L fl j vals lt) ∧ vals.length = j := by
  obtain ⟨its, fr, hV, hl, hT, hN, hY, hI⟩ := h
  rw [drop_head hj noItm] at hT hN hY
  have hg : Given xs its.length L fr ((xs.getD j noItm).top + 1) := by rw [hl]; exact (names_given hL hT.1 hT.2.1 hN).1
  have hty : tyOf xs its L ((xs.getD j noItm).top + 1) (xs.getD j noItm).top ≠ 0 := fun e => by
    rw [typesAt, if_pos (.inl (by rw [e]; rfl))] at hY; simp at hY
  have hvl := hV.len
  have ht := to_tr (vals := vals) (fl := fl) hP.tokw hI (by omega) hvl hP.num _ hT.1.fit hg hty
  have e1 : letVals (xs.take vals.length) vals = letVals (xs.take j) vals := by rw [hvl, hl]
  have h1 := ht.ty
  rw [hl] at h1
  refine ⟨⟨letTys (xs.take j) its, ⟨fr, hT.1.fit⟩, ht.wf, ?_, by rw [← e1]; exact ht.ev, lets_has _ _ _ hvl fun i hi => hV.has i hi, ?_⟩, by omega⟩
  · rw [h1]
    intro e
    rcases tyOf_ty hP.tokw hI _ hT.1.fit hg with h0 | h0
    · exact hty h0
    · exact hty ((tcode_zero (.inr h0)).1 e)
  · rw [letTys_len _ _ (by simp; omega), letVals_len _ _ (by simp; omega)]; exact Nat.le_refl _
theorem MeanAt2.next {xs : List Itm} {L : List Pt} {fl : List Int} {j : Nat} {vals : List Int} (hL : PartsOK L) (hP : PlainOK L) (hF : FieldsOK fl) (h : MeanAt2 xs L j vals) (hj : j < xs.length) :
    MeanAt2 xs L (j + 1) (vals ++ [tellF xs vals fl L ((xs.getD j noItm).top + 1) (xs.getD j noItm).top]) := by
  obtain ⟨its, fr, hV, hl, hT, hN, hY, hI⟩ := h
  rw [drop_head hj noItm] at hT hN hY
  obtain ⟨hg0, hn2⟩ := names_given hL hT.1 hT.2.1 hN
  have hg : Given xs its.length L fr ((xs.getD j noItm).top + 1) := by rw [hl]; exact hg0
  rw [typesAt] at hY
  by_cases hc : (tyOf xs its L ((xs.getD j noItm).top + 1) (xs.getD j noItm).top).toNat = 0 ∨ ((xs.getD j noItm).name = [] ∧ (tyOf xs its L ((xs.getD j noItm).top + 1) (xs.getD j noItm).top).toNat ≠ 116)
  · rw [if_pos hc] at hY; simp at hY
  · rw [if_neg hc] at hY
    have hne : tyOf xs its L ((xs.getD j noItm).top + 1) (xs.getD j noItm).top ≠ 0 := fun e => hc (.inl (by rw [e]; rfl))
    refine ⟨its ++ [tyOf xs its L ((xs.getD j noItm).top + 1) (xs.getD j noItm).top], (xs.getD j noItm).parts, hV.snoc ?_, by simp [hl], hT.2.2, hn2, hY, ?_⟩
    · exact tell_has hV hF hP.num _ hT.1.fit hg hne
    · intro c hcm
      simp only [List.mem_append, List.mem_singleton] at hcm
      rcases hcm with hcm | rfl
      · exact hI c hcm
      · rcases tyOf_ty hP.tokw hI _ hT.1.fit hg with h0 | h0
        · exact absurd h0 hne
        · exact h0
end Go.Proofs.YtfkdailfcmnjlaaGreatDoor

namespace Go.Proofs.YtfkdailfcmnjlaaGreatDoor
open Go Go.RowKit
set_option maxRecDepth 100000
attribute [local go_sem ↓] Go.wp_at_zero Go.wp_at_succ
variable {bs : Nat}

def flV (fl : List Int) : Value := .agg #[.int .i64 (fl.getD 0 0), .int .i64 (fl.getD 1 0), .int .i64 (fl.getD 2 0), .int .i64 (fl.getD 3 0), .int .i64 (fl.getD 4 0), .int .i64 (fl.getD 5 0), .int .i64 (fl.getD 6 0), .int .i64 (fl.getD 7 0), .int .i64 (fl.getD 8 0)]
end Go.Proofs.YtfkdailfcmnjlaaGreatDoor

namespace Go.Proofs.YtfkdailfcmnjlaaGreatDoor
open Go Go.RowKit
set_option maxRecDepth 100000
attribute [local go_sem ↓] Go.wp_at_zero Go.wp_at_succ

theorem below_cells {B b : Nat} {a : World} (hb : B ≤ b) : ∀ (vs : List Value) (o : Nat) {w : World}, Below B a w → Below B a (w.setCells b o vs)
  | [], _, _, h => h
  | v :: r, o, w, h => below_cells hb r (o + 1) (h.setCell (by simpa using hb) v)
theorem there_below {w w' : World} {b o n : Nat} (h : w.there b o n) (hb : Below w.heap.size w w') : w'.there b o n := fun j hj => by
  have h1 := h j hj
  have hl : b < w.heap.size := by
    obtain ⟨v, hv⟩ := Option.isSome_iff_exists.1 h1.1
    exact World.block_lt_of_cell? w _ hv
  have e := hb.block b hl
  exact ⟨by rw [World.cell?_of_block (w := w) (a := ⟨b, o + j, none⟩) e]; exact h1.1, by rw [World.frozen?_of_block (w := w) (a := ⟨b, o + j, none⟩) e]; exact h1.2⟩
theorem there_cells {w : World} {b : Nat} {cs : Array Value} {t : TypeId} (h : w.heap[b]? = some (.cells cs t (0, 0))) : w.there b 0 cs.size := fun j hj => by
  rw [Nat.zero_add]
  exact ⟨by rw [cell_of_row w b j _ _ _ h]; simp [hj], by simp [World.frozen?, h]⟩
set_option maxHeartbeats 8000000 in
theorem pfields_any {lv mv : Value} (e : Ev) (s : Stt) (w : World) (h1 : PairsAt lv s.levels w) (h2 : PairsAt mv s.members w) :
    Calls Tryz.prog 40 #[evV e, sttV lv mv s] w fun en w' => en = .returned (flV (fieldsL e s)) ∧ Below w.heap.size w w' := by
  unfold evV sttV
  obtain ⟨sn, tg, wa, nd, wh⟩ := e
  obtain ⟨ls, df, ms, op⟩ := s
  simp only [] at *
  have hol : lv.oneCell' = true := by obtain ⟨_, a, c, rfl, _⟩ := h1; rfl
  have hom : mv.oneCell' = true := by obtain ⟨_, a, c, rfl, _⟩ := h2; rfl
  have hB0 : Below w.heap.size w (((w.alloc (.cells #[S sn, S tg, .int .i64 wa, .int .i64 nd, .int .i64 wh] 46)).alloc (.cells #[lv, .int .i64 df, mv, .bool op] 50)).alloc (.cells #[.int .i64 0, .int .i64 0, .int .i64 0, .int .i64 0, .int .i64 0, .int .i64 0, .int .i64 0, .int .i64 0, .int .i64 0] 114)) := (((Below.refl _ _).alloc (Nat.le_refl _) _).alloc (by simp) _).alloc (by simp; omega) _
  have hX0 : (((w.alloc (.cells #[S sn, S tg, .int .i64 wa, .int .i64 nd, .int .i64 wh] 46)).alloc (.cells #[lv, .int .i64 df, mv, .bool op] 50)).alloc (.cells #[.int .i64 0, .int .i64 0, .int .i64 0, .int .i64 0, .int .i64 0, .int .i64 0, .int .i64 0, .int .i64 0, .int .i64 0] 114)).heap[w.heap.size]? = some (.cells #[S sn, S tg, .int .i64 wa, .int .i64 nd, .int .i64 wh] 46 (0, 0)) := by rw [Below.heap_alloc _ _ _ (by simp; omega), Below.heap_alloc _ _ _ (by simp)]; exact heap_alloc_new w _
  have hP0 : (((w.alloc (.cells #[S sn, S tg, .int .i64 wa, .int .i64 nd, .int .i64 wh] 46)).alloc (.cells #[lv, .int .i64 df, mv, .bool op] 50)).alloc (.cells #[.int .i64 0, .int .i64 0, .int .i64 0, .int .i64 0, .int .i64 0, .int .i64 0, .int .i64 0, .int .i64 0, .int .i64 0] 114)).heap[w.heap.size + 1]? = some (.cells #[lv, .int .i64 df, mv, .bool op] 50 (0, 0)) := by
    rw [Below.heap_alloc _ _ _ (by simp)]
    have e := heap_alloc_new (w.alloc (.cells #[S sn, S tg, .int .i64 wa, .int .i64 nd, .int .i64 wh] 46)) (.cells #[lv, .int .i64 df, mv, .bool op] 50); rw [World.size_alloc] at e; exact e
  have hR0 : (((w.alloc (.cells #[S sn, S tg, .int .i64 wa, .int .i64 nd, .int .i64 wh] 46)).alloc (.cells #[lv, .int .i64 df, mv, .bool op] 50)).alloc (.cells #[.int .i64 0, .int .i64 0, .int .i64 0, .int .i64 0, .int .i64 0, .int .i64 0, .int .i64 0, .int .i64 0, .int .i64 0] 114)).heap[w.heap.size + 1 + 1]? = some (.cells #[.int .i64 0, .int .i64 0, .int .i64 0, .int .i64 0, .int .i64 0, .int .i64 0, .int .i64 0, .int .i64 0, .int .i64 0] 114 (0, 0)) := by
    have e := heap_alloc_new ((w.alloc (.cells #[S sn, S tg, .int .i64 wa, .int .i64 nd, .int .i64 wh] 46)).alloc (.cells #[lv, .int .i64 df, mv, .bool op] 50)) (.cells #[.int .i64 0, .int .i64 0, .int .i64 0, .int .i64 0, .int .i64 0, .int .i64 0, .int .i64 0, .int .i64 0, .int .i64 0] 114); rw [World.size_alloc, World.size_alloc] at e; exact e
  have H0 : Hid _ := And.intro hB0 (And.intro hX0 (And.intro hP0 hR0))
  have WL : ∀ (u : List UInt8) (W : World), Below w.heap.size w W → Calls Tryz.prog 79 #[.agg #[lv, .int .i64 df, mv, .bool op], S u] W fun e w' => e = .returned (.int .i64 (firstI df ls u)) ∧ Below W.heap.size W w' := fun u W hb => plevel_any u W (h1.below hb)
  have WI : ∀ (u : List UInt8) (W : World), Below w.heap.size w W → Calls Tryz.prog 80 #[.agg #[lv, .int .i64 df, mv, .bool op], S u] W fun e w' => e = .returned (.int .i64 (firstK ms u)) ∧ Below W.heap.size W w' := fun u W hb => pstanding_any u W (h2.below hb)
  have WK := fun W => pmember_any wa W
  have WT := fun b W => ptruth_any b W
  have KP : Hid (∀ W W', (Below w.heap.size w W ∧ W.cell? ⟨w.heap.size, 0, none⟩ = some (S sn) ∧ W.cell? ⟨w.heap.size, 1, none⟩ = some (S tg) ∧ W.cell? ⟨w.heap.size, 2, none⟩ = some (.int .i64 wa) ∧ W.cell? ⟨w.heap.size, 3, none⟩ = some (.int .i64 nd) ∧ W.cell? ⟨w.heap.size, 4, none⟩ = some (.int .i64 wh) ∧ W.cell? ⟨w.heap.size + 1, 0, none⟩ = some (lv) ∧ W.cell? ⟨w.heap.size + 1, 1, none⟩ = some (.int .i64 df) ∧ W.cell? ⟨w.heap.size + 1, 2, none⟩ = some (mv) ∧ W.cell? ⟨w.heap.size + 1, 3, none⟩ = some (.bool op) ∧ W.there (w.heap.size + 1 + 1) 0 9) → Below W.heap.size W W' → (Below w.heap.size w W' ∧ W'.cell? ⟨w.heap.size, 0, none⟩ = some (S sn) ∧ W'.cell? ⟨w.heap.size, 1, none⟩ = some (S tg) ∧ W'.cell? ⟨w.heap.size, 2, none⟩ = some (.int .i64 wa) ∧ W'.cell? ⟨w.heap.size, 3, none⟩ = some (.int .i64 nd) ∧ W'.cell? ⟨w.heap.size, 4, none⟩ = some (.int .i64 wh) ∧ W'.cell? ⟨w.heap.size + 1, 0, none⟩ = some (lv) ∧ W'.cell? ⟨w.heap.size + 1, 1, none⟩ = some (.int .i64 df) ∧ W'.cell? ⟨w.heap.size + 1, 2, none⟩ = some (mv) ∧ W'.cell? ⟨w.heap.size + 1, 3, none⟩ = some (.bool op) ∧ W'.there (w.heap.size + 1 + 1) 0 9)) := fun W W' hS hb => by
    obtain ⟨hb0, a0, a1, a2, a3, a4, a5, a6, a7, a8, tt⟩ := hS
    refine ⟨hb0.trans (hb.mono hb0.size), ?_, ?_, ?_, ?_, ?_, ?_, ?_, ?_, ?_, ?_⟩
    all_goals first
      | (rw [hb.cell (World.block_lt_of_cell? W _ (by assumption))]; assumption)
      | exact there_below tt hb
  have KD : Hid (∀ W : World, (Below w.heap.size w W ∧ W.cell? ⟨w.heap.size, 0, none⟩ = some (S sn) ∧ W.cell? ⟨w.heap.size, 1, none⟩ = some (S tg) ∧ W.cell? ⟨w.heap.size, 2, none⟩ = some (.int .i64 wa) ∧ W.cell? ⟨w.heap.size, 3, none⟩ = some (.int .i64 nd) ∧ W.cell? ⟨w.heap.size, 4, none⟩ = some (.int .i64 wh) ∧ W.cell? ⟨w.heap.size + 1, 0, none⟩ = some (lv) ∧ W.cell? ⟨w.heap.size + 1, 1, none⟩ = some (.int .i64 df) ∧ W.cell? ⟨w.heap.size + 1, 2, none⟩ = some (mv) ∧ W.cell? ⟨w.heap.size + 1, 3, none⟩ = some (.bool op) ∧ W.there (w.heap.size + 1 + 1) 0 9) → (Below w.heap.size w W.drew ∧ W.drew.cell? ⟨w.heap.size, 0, none⟩ = some (S sn) ∧ W.drew.cell? ⟨w.heap.size, 1, none⟩ = some (S tg) ∧ W.drew.cell? ⟨w.heap.size, 2, none⟩ = some (.int .i64 wa) ∧ W.drew.cell? ⟨w.heap.size, 3, none⟩ = some (.int .i64 nd) ∧ W.drew.cell? ⟨w.heap.size, 4, none⟩ = some (.int .i64 wh) ∧ W.drew.cell? ⟨w.heap.size + 1, 0, none⟩ = some (lv) ∧ W.drew.cell? ⟨w.heap.size + 1, 1, none⟩ = some (.int .i64 df) ∧ W.drew.cell? ⟨w.heap.size + 1, 2, none⟩ = some (mv) ∧ W.drew.cell? ⟨w.heap.size + 1, 3, none⟩ = some (.bool op) ∧ W.drew.there (w.heap.size + 1 + 1) 0 9)) := fun W hS => by
    obtain ⟨hb0, a0, a1, a2, a3, a4, a5, a6, a7, a8, tt⟩ := hS
    exact ⟨hb0.drew, a0, a1, a2, a3, a4, a5, a6, a7, a8, tt⟩
  have KS : Hid (∀ W vs, (Below w.heap.size w W ∧ W.cell? ⟨w.heap.size, 0, none⟩ = some (S sn) ∧ W.cell? ⟨w.heap.size, 1, none⟩ = some (S tg) ∧ W.cell? ⟨w.heap.size, 2, none⟩ = some (.int .i64 wa) ∧ W.cell? ⟨w.heap.size, 3, none⟩ = some (.int .i64 nd) ∧ W.cell? ⟨w.heap.size, 4, none⟩ = some (.int .i64 wh) ∧ W.cell? ⟨w.heap.size + 1, 0, none⟩ = some (lv) ∧ W.cell? ⟨w.heap.size + 1, 1, none⟩ = some (.int .i64 df) ∧ W.cell? ⟨w.heap.size + 1, 2, none⟩ = some (mv) ∧ W.cell? ⟨w.heap.size + 1, 3, none⟩ = some (.bool op) ∧ W.there (w.heap.size + 1 + 1) 0 9) → (Below w.heap.size w (W.setCells (w.heap.size + 1 + 1) 0 vs) ∧ (W.setCells (w.heap.size + 1 + 1) 0 vs).cell? ⟨w.heap.size, 0, none⟩ = some (S sn) ∧ (W.setCells (w.heap.size + 1 + 1) 0 vs).cell? ⟨w.heap.size, 1, none⟩ = some (S tg) ∧ (W.setCells (w.heap.size + 1 + 1) 0 vs).cell? ⟨w.heap.size, 2, none⟩ = some (.int .i64 wa) ∧ (W.setCells (w.heap.size + 1 + 1) 0 vs).cell? ⟨w.heap.size, 3, none⟩ = some (.int .i64 nd) ∧ (W.setCells (w.heap.size + 1 + 1) 0 vs).cell? ⟨w.heap.size, 4, none⟩ = some (.int .i64 wh) ∧ (W.setCells (w.heap.size + 1 + 1) 0 vs).cell? ⟨w.heap.size + 1, 0, none⟩ = some (lv) ∧ (W.setCells (w.heap.size + 1 + 1) 0 vs).cell? ⟨w.heap.size + 1, 1, none⟩ = some (.int .i64 df) ∧ (W.setCells (w.heap.size + 1 + 1) 0 vs).cell? ⟨w.heap.size + 1, 2, none⟩ = some (mv) ∧ (W.setCells (w.heap.size + 1 + 1) 0 vs).cell? ⟨w.heap.size + 1, 3, none⟩ = some (.bool op) ∧ (W.setCells (w.heap.size + 1 + 1) 0 vs).there (w.heap.size + 1 + 1) 0 9)) := fun W vs hS => by
    obtain ⟨hb0, a0, a1, a2, a3, a4, a5, a6, a7, a8, tt⟩ := hS
    refine ⟨below_cells (by omega) _ _ hb0, ?_, ?_, ?_, ?_, ?_, ?_, ?_, ?_, ?_, ?_⟩
    all_goals first
      | (rw [World.cell?_setCells_out _ _ _ _ _ (fun h => by exfalso; dsimp only at h; omega)]; assumption)
      | exact World.there_setCells tt _ _ _
  have HF : Hid (fieldsL ⟨sn, tg, wa, nd, wh⟩ ⟨ls, df, ms, op⟩ = [firstI df ls sn, firstI df ls tg, nd, wh, firstK ms sn, firstK ms tg, knownI wa, truthI (sn == tg), truthI op]) := rfl
  clear hB0 hX0 hP0 hR0 h1 h2
  go_enter Tryz.func40, Tryz.ntmps40
  go_wp2_with fail
  obtain ⟨hB0, hX0, hP0, hR0⟩ := H0.out
  clear H0
  generalize (((w.alloc (.cells #[S sn, S tg, .int .i64 wa, .int .i64 nd, .int .i64 wh] 46)).alloc (.cells #[lv, .int .i64 df, mv, .bool op] 50)).alloc (.cells #[.int .i64 0, .int .i64 0, .int .i64 0, .int .i64 0, .int .i64 0, .int .i64 0, .int .i64 0, .int .i64 0, .int .i64 0] 114)) = wz at *
  have hS0 : (Below w.heap.size w wz ∧ wz.cell? ⟨w.heap.size, 0, none⟩ = some (S sn) ∧ wz.cell? ⟨w.heap.size, 1, none⟩ = some (S tg) ∧ wz.cell? ⟨w.heap.size, 2, none⟩ = some (.int .i64 wa) ∧ wz.cell? ⟨w.heap.size, 3, none⟩ = some (.int .i64 nd) ∧ wz.cell? ⟨w.heap.size, 4, none⟩ = some (.int .i64 wh) ∧ wz.cell? ⟨w.heap.size + 1, 0, none⟩ = some (lv) ∧ wz.cell? ⟨w.heap.size + 1, 1, none⟩ = some (.int .i64 df) ∧ wz.cell? ⟨w.heap.size + 1, 2, none⟩ = some (mv) ∧ wz.cell? ⟨w.heap.size + 1, 3, none⟩ = some (.bool op) ∧ wz.there (w.heap.size + 1 + 1) 0 9) := by
    refine ⟨hB0, ?_, ?_, ?_, ?_, ?_, ?_, ?_, ?_, ?_, ?_⟩
    all_goals first | (rw [cell_of_row wz w.heap.size _ _ _ _ hX0]; rfl) | (rw [cell_of_row wz (w.heap.size + 1) _ _ _ _ hP0]; rfl) | exact there_cells hR0
  have hlen9 : [Value.int .i64 (firstI df ls sn), Value.int .i64 (firstI df ls tg), Value.int .i64 nd, Value.int .i64 wh, Value.int .i64 (firstK ms sn), Value.int .i64 (firstK ms tg), Value.int .i64 (knownI wa), Value.int .i64 (truthI (sn == tg)), Value.int .i64 (truthI op)].length = 9 := rfl
  have hone9 : ∀ v ∈ [Value.int .i64 (firstI df ls sn), Value.int .i64 (firstI df ls tg), Value.int .i64 nd, Value.int .i64 wh, Value.int .i64 (firstK ms sn), Value.int .i64 (firstK ms tg), Value.int .i64 (knownI wa), Value.int .i64 (truthI (sn == tg)), Value.int .i64 (truthI op)], v.oneCell' = true := by
    intro v hv
    simp only [List.mem_cons, List.not_mem_nil, or_false] at hv
    rcases hv with rfl | rfl | rfl | rfl | rfl | rfl | rfl | rfl | rfl <;> rfl
  have hsz9 : Option.map (fun x => x.size) (Tryz.prog.info? 114) = some 9 := by kernel_rfl
  clear hB0 hX0 hP0 hR0
  go_region_held3 (fun w' => (Below w.heap.size w w' ∧ w'.cell? ⟨w.heap.size, 0, none⟩ = some (S sn) ∧ w'.cell? ⟨w.heap.size, 1, none⟩ = some (S tg) ∧ w'.cell? ⟨w.heap.size, 2, none⟩ = some (.int .i64 wa) ∧ w'.cell? ⟨w.heap.size, 3, none⟩ = some (.int .i64 nd) ∧ w'.cell? ⟨w.heap.size, 4, none⟩ = some (.int .i64 wh) ∧ w'.cell? ⟨w.heap.size + 1, 0, none⟩ = some (lv) ∧ w'.cell? ⟨w.heap.size + 1, 1, none⟩ = some (.int .i64 df) ∧ w'.cell? ⟨w.heap.size + 1, 2, none⟩ = some (mv) ∧ w'.cell? ⟨w.heap.size + 1, 3, none⟩ = some (.bool op) ∧ w'.there (w.heap.size + 1 + 1) 0 9)) (first | with_reducible exact KD.out _ (by assumption) | with_reducible exact KP.out _ _ (by assumption) (by assumption) | with_reducible exact KS.out _ _ (by assumption) | with_reducible assumption | go_keep)
    (first
      | (go_at_call 79; refine (WL _ _ (by exact And.left (by assumption))).mono ?_; rintro e w1 ⟨rfl, hb1⟩)
      | (go_at_call 80; refine (WI _ _ (by exact And.left (by assumption))).mono ?_; rintro e w1 ⟨rfl, hb1⟩)
      | (go_at_call 81; refine (WK _).mono ?_; rintro e w1 ⟨rfl, rfl⟩)
      | (go_at_call 82; refine (WT _ _).mono ?_; rintro e w1 ⟨rfl, rfl⟩))
  rename_i W1 B1 W2 B2 W3 B3 hHeld
  have ht0 : wz.drew.there (w.heap.size + 1 + 1) 0 9 := fun j hj => hS0.2.2.2.2.2.2.2.2.2.2 j hj
  have ht : w1.there (w.heap.size + 1 + 1) 0 9 := there_below (there_below (there_below (there_below ht0 B1) B2) B3) hb1
  clear ht0 B1 B2 B3 hb1
  have hin := World.cell?_setCells_in (w.heap.size + 1 + 1) [Value.int .i64 (firstI df ls sn), Value.int .i64 (firstI df ls tg), Value.int .i64 nd, Value.int .i64 wh, Value.int .i64 (firstK ms sn), Value.int .i64 (firstK ms tg), Value.int .i64 (knownI wa), Value.int .i64 (truthI (sn == tg)), Value.int .i64 (truthI op)] 0 w1 (fun j hj => by
    exact (ht j (by rw [hlen9] at hj; exact hj)).1)
  have hfz : ∀ j, j < 9 → (w1.setCells (w.heap.size + 1 + 1) 0 [Value.int .i64 (firstI df ls sn), Value.int .i64 (firstI df ls tg), Value.int .i64 nd, Value.int .i64 wh, Value.int .i64 (firstK ms sn), Value.int .i64 (firstK ms tg), Value.int .i64 (knownI wa), Value.int .i64 (truthI (sn == tg)), Value.int .i64 (truthI op)]).frozen? ⟨w.heap.size + 1 + 1, j, none⟩ = false := fun j hj => by
    have := hHeld.2.2.2.2.2.2.2.2.2.2 j hj
    rw [Nat.zero_add] at this; exact this.2
  have hBl := hHeld.1
  have r0 : (w1.setCells (w.heap.size + 1 + 1) 0 [Value.int .i64 (firstI df ls sn), Value.int .i64 (firstI df ls tg), Value.int .i64 nd, Value.int .i64 wh, Value.int .i64 (firstK ms sn), Value.int .i64 (firstK ms tg), Value.int .i64 (knownI wa), Value.int .i64 (truthI (sn == tg)), Value.int .i64 (truthI op)]).cell? ⟨w.heap.size + 1 + 1, 0, none⟩ = some (.int .i64 (firstI df ls sn)) := hin 0 (by simp)
  have r1 : (w1.setCells (w.heap.size + 1 + 1) 0 [Value.int .i64 (firstI df ls sn), Value.int .i64 (firstI df ls tg), Value.int .i64 nd, Value.int .i64 wh, Value.int .i64 (firstK ms sn), Value.int .i64 (firstK ms tg), Value.int .i64 (knownI wa), Value.int .i64 (truthI (sn == tg)), Value.int .i64 (truthI op)]).cell? ⟨w.heap.size + 1 + 1, 1, none⟩ = some (.int .i64 (firstI df ls tg)) := hin 1 (by simp)
  have r2 : (w1.setCells (w.heap.size + 1 + 1) 0 [Value.int .i64 (firstI df ls sn), Value.int .i64 (firstI df ls tg), Value.int .i64 nd, Value.int .i64 wh, Value.int .i64 (firstK ms sn), Value.int .i64 (firstK ms tg), Value.int .i64 (knownI wa), Value.int .i64 (truthI (sn == tg)), Value.int .i64 (truthI op)]).cell? ⟨w.heap.size + 1 + 1, 2, none⟩ = some (.int .i64 (nd)) := hin 2 (by simp)
  have r3 : (w1.setCells (w.heap.size + 1 + 1) 0 [Value.int .i64 (firstI df ls sn), Value.int .i64 (firstI df ls tg), Value.int .i64 nd, Value.int .i64 wh, Value.int .i64 (firstK ms sn), Value.int .i64 (firstK ms tg), Value.int .i64 (knownI wa), Value.int .i64 (truthI (sn == tg)), Value.int .i64 (truthI op)]).cell? ⟨w.heap.size + 1 + 1, 3, none⟩ = some (.int .i64 (wh)) := hin 3 (by simp)
  have r4 : (w1.setCells (w.heap.size + 1 + 1) 0 [Value.int .i64 (firstI df ls sn), Value.int .i64 (firstI df ls tg), Value.int .i64 nd, Value.int .i64 wh, Value.int .i64 (firstK ms sn), Value.int .i64 (firstK ms tg), Value.int .i64 (knownI wa), Value.int .i64 (truthI (sn == tg)), Value.int .i64 (truthI op)]).cell? ⟨w.heap.size + 1 + 1, 4, none⟩ = some (.int .i64 (firstK ms sn)) := hin 4 (by simp)
  have r5 : (w1.setCells (w.heap.size + 1 + 1) 0 [Value.int .i64 (firstI df ls sn), Value.int .i64 (firstI df ls tg), Value.int .i64 nd, Value.int .i64 wh, Value.int .i64 (firstK ms sn), Value.int .i64 (firstK ms tg), Value.int .i64 (knownI wa), Value.int .i64 (truthI (sn == tg)), Value.int .i64 (truthI op)]).cell? ⟨w.heap.size + 1 + 1, 5, none⟩ = some (.int .i64 (firstK ms tg)) := hin 5 (by simp)
  have r6 : (w1.setCells (w.heap.size + 1 + 1) 0 [Value.int .i64 (firstI df ls sn), Value.int .i64 (firstI df ls tg), Value.int .i64 nd, Value.int .i64 wh, Value.int .i64 (firstK ms sn), Value.int .i64 (firstK ms tg), Value.int .i64 (knownI wa), Value.int .i64 (truthI (sn == tg)), Value.int .i64 (truthI op)]).cell? ⟨w.heap.size + 1 + 1, 6, none⟩ = some (.int .i64 (knownI wa)) := hin 6 (by simp)
  have r7 : (w1.setCells (w.heap.size + 1 + 1) 0 [Value.int .i64 (firstI df ls sn), Value.int .i64 (firstI df ls tg), Value.int .i64 nd, Value.int .i64 wh, Value.int .i64 (firstK ms sn), Value.int .i64 (firstK ms tg), Value.int .i64 (knownI wa), Value.int .i64 (truthI (sn == tg)), Value.int .i64 (truthI op)]).cell? ⟨w.heap.size + 1 + 1, 7, none⟩ = some (.int .i64 (truthI (sn == tg))) := hin 7 (by simp)
  have r8 : (w1.setCells (w.heap.size + 1 + 1) 0 [Value.int .i64 (firstI df ls sn), Value.int .i64 (firstI df ls tg), Value.int .i64 nd, Value.int .i64 wh, Value.int .i64 (firstK ms sn), Value.int .i64 (firstK ms tg), Value.int .i64 (knownI wa), Value.int .i64 (truthI (sn == tg)), Value.int .i64 (truthI op)]).cell? ⟨w.heap.size + 1 + 1, 8, none⟩ = some (.int .i64 (truthI op)) := hin 8 (by simp)
  have HN : Hid _ := And.intro hBl hfz
  clear hin ht hBl hfz KP KD KS WL WI WK WT hS0 hlen9 hone9 hsz9
  generalize (w1.setCells (w.heap.size + 1 + 1) 0 [Value.int .i64 (firstI df ls sn), Value.int .i64 (firstI df ls tg), Value.int .i64 nd, Value.int .i64 wh, Value.int .i64 (firstK ms sn), Value.int .i64 (firstK ms tg), Value.int .i64 (knownI wa), Value.int .i64 (truthI (sn == tg)), Value.int .i64 (truthI op)]) = wf at r0 r1 r2 r3 r4 r5 r6 r7 r8 HN ⊢
  generalize firstI df ls sn = y0 at r0 HF ⊢
  generalize firstI df ls tg = y1 at r1 HF ⊢
  generalize firstK ms sn = y4 at r4 HF ⊢
  generalize firstK ms tg = y5 at r5 HF ⊢
  generalize knownI wa = y6 at r6 HF ⊢
  generalize truthI (sn == tg) = y7 at r7 HF ⊢
  generalize truthI op = y8 at r8 HF ⊢
  go_wp2_with fail
  refine bodyPost_ret (v := .agg #[.int .i64 y0, .int .i64 y1, .int .i64 nd, .int .i64 wh, .int .i64 y4, .int .i64 y5, .int .i64 y6, .int .i64 y7, .int .i64 y8]) (by simp [results, Tryz.results40, go_sem, r0, r1, r2, r3, r4, r5, r6, r7, r8]) rfl ?_
  exact ⟨by rw [HF.out]; rfl, HN.out.1⟩
end Go.Proofs.YtfkdailfcmnjlaaGreatDoor

namespace Go.Proofs.YtfkdailfcmnjlaaGreatDoor
open Go Go.RowKit
set_option maxRecDepth 100000
attribute [local go_sem ↓] Go.wp_at_zero Go.wp_at_succ

theorem PolAt.below {bs : Nat} {L : List Pt} {xs : List Itm} {base : Nat} {v : Value} {ys : List (Tok × Tok × Nat × Int)} {w w' : World} (h : PolAt bs L xs base v ys w) (hb : Below w.heap.size w w') : PolAt bs L xs base v ys w' :=
  ⟨ownsRow_below h.row hb, h.few, h.items.grow hb, h.trees, h.parts, h.tokw, h.names, h.types, h.numb, h.many⟩
end Go.Proofs.YtfkdailfcmnjlaaGreatDoor
