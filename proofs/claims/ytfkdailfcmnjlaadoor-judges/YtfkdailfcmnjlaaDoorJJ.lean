/-
  The document's Load: what is known by places, in memory.
-/
import Derived.Test.YtfkdailfcmnjlaaDoorJA
import Derived.Test.YtfkdailfcmnjlaaDoorJB
import Derived.Test.YtfkdailfcmnjlaaDoorJC
import Derived.Test.YtfkdailfcmnjlaaDoorJD
import Derived.Test.YtfkdailfcmnjlaaDoorJE
import Derived.Test.YtfkdailfcmnjlaaDoorJF
import Derived.Test.YtfkdailfcmnjlaaDoorJG
import Derived.Test.YtfkdailfcmnjlaaDoorJH
import Derived.Test.YtfkdailfcmnjlaaDoorJI
set_option linter.unusedVariables false
set_option linter.unusedSimpArgs false
namespace Go.Proofs.YtfkdailfcmnjlaaDoor
open Go Go.RowKit
set_option maxRecDepth 100000
attribute [local go_sem ↓] Go.wp_at_zero Go.wp_at_succ

def kv0 (o : Option Kn) : Value := .bool o.isSome
def kv1 (o : Option Kn) : Value := match o with
  | none => S []
  | some k => S (stS k.st)
def kv2 (o : Option Kn) : Value := match o with
  | none => S []
  | some k => S (clS k.cl)
/-- What is known by places, in memory. -/
structure KnAt (w : World) (g : Nat) (kl : List (Option Kn)) : Prop where
  blk : ∃ cs, w.heap[g]? = some (.cells cs 58 (0, 0)) ∧ cs.size = kl.length * 3
  c0 : ∀ j, j < kl.length → w.cell? ⟨g, j * 3, none⟩ = some (kv0 (kl.getD j none))
  c1 : ∀ j, j < kl.length → w.cell? ⟨g, j * 3 + 1, none⟩ = some (kv1 (kl.getD j none))
  c2 : ∀ j, j < kl.length → w.cell? ⟨g, j * 3 + 2, none⟩ = some (kv2 (kl.getD j none))
theorem KnAt.frz {w : World} {g : Nat} {kl : List (Option Kn)} (h : KnAt w g kl) (j : Nat) : w.frozen? ⟨g, j, none⟩ = false := by
  obtain ⟨cs, hc, _⟩ := h.blk
  simp [World.frozen?, hc]
theorem KnAt.of_block {w w' : World} {g : Nat} {kl : List (Option Kn)} (h : KnAt w g kl) (hb : w'.heap[g]? = w.heap[g]?) : KnAt w' g kl :=
  ⟨by rw [hb]; exact h.blk, fun j hj => by rw [World.cell?_of_block (w := w) (a := ⟨g, j * 3, none⟩) hb]; exact h.c0 j hj, fun j hj => by rw [World.cell?_of_block (w := w) (a := ⟨g, j * 3 + 1, none⟩) hb]; exact h.c1 j hj, fun j hj => by rw [World.cell?_of_block (w := w) (a := ⟨g, j * 3 + 2, none⟩) hb]; exact h.c2 j hj⟩
theorem KnAt.lt {w : World} {g : Nat} {kl : List (Option Kn)} (h : KnAt w g kl) : g < w.heap.size := by
  obtain ⟨cs, hc, _⟩ := h.blk
  exact lt_of_get hc
theorem KnAt.set {w : World} {g : Nat} {kl : List (Option Kn)} (h : KnAt w g kl) {j : Nat} (hj : j < kl.length) (o : Option Kn) : KnAt (((w.setCell ⟨g, j * 3, none⟩ (kv0 o)).setCell ⟨g, j * 3 + 1, none⟩ (kv1 o)).setCell ⟨g, j * 3 + 2, none⟩ (kv2 o)) g (kl.set j o) := by
  obtain ⟨cs, hc, hs⟩ := h.blk
  have e1 := heap_setCell_same w g (j * 3) cs 58 (kv0 o) hc
  have e2 := heap_setCell_same _ g (j * 3 + 1) _ 58 (kv1 o) e1
  have e3 := heap_setCell_same _ g (j * 3 + 2) _ 58 (kv2 o) e2
  have hcell : ∀ q, (((w.setCell ⟨g, j * 3, none⟩ (kv0 o)).setCell ⟨g, j * 3 + 1, none⟩ (kv1 o)).setCell ⟨g, j * 3 + 2, none⟩ (kv2 o)).cell? ⟨g, q, none⟩ = if q = j * 3 + 2 then some (kv2 o) else if q = j * 3 + 1 then some (kv1 o) else if q = j * 3 then some (kv0 o) else w.cell? ⟨g, q, none⟩ := fun q => by
    rw [cell_of_row _ g q _ _ _ e3, cell_of_row w g q _ _ _ hc]
    by_cases a : q = j * 3 + 2
    · subst a; rw [if_pos rfl, Array.getElem?_setIfInBounds, if_pos rfl, if_pos (by simp; omega)]
    · rw [if_neg a, Array.getElem?_setIfInBounds_ne (by omega)]
      by_cases b : q = j * 3 + 1
      · subst b; rw [if_pos rfl, Array.getElem?_setIfInBounds, if_pos rfl, if_pos (by simp; omega)]
      · rw [if_neg b, Array.getElem?_setIfInBounds_ne (by omega)]
        by_cases c : q = j * 3
        · subst c; rw [if_pos rfl, Array.getElem?_setIfInBounds, if_pos rfl, if_pos (by omega)]
        · rw [if_neg c, Array.getElem?_setIfInBounds_ne (by omega)]
  refine ⟨⟨_, e3, by simpa using hs⟩, fun i hi => ?_, fun i hi => ?_, fun i hi => ?_⟩
  · rw [List.length_set] at hi
    rw [hcell, if_neg (by omega), if_neg (by omega)]
    by_cases e : j = i
    · subst e; rw [if_pos rfl, getD_set_eq hj]
    · rw [if_neg (by omega), getD_set_ne e]; exact h.c0 i hi
  · rw [List.length_set] at hi
    rw [hcell, if_neg (by omega)]
    by_cases e : j = i
    · subst e; rw [if_pos rfl, getD_set_eq hj]
    · rw [if_neg (by omega), if_neg (by omega), getD_set_ne e]; exact h.c1 i hi
  · rw [List.length_set] at hi
    rw [hcell]
    by_cases e : j = i
    · subst e; rw [if_pos rfl, getD_set_eq hj]
    · rw [if_neg (by omega), if_neg (by omega), if_neg (by omega), getD_set_ne e]; exact h.c2 i hi
theorem info_Known : (Tryd.prog.info? 58).map (fun i => (i.zero, i.size, i.bytes)) = some (some (.agg #[.bool false, .string ⟨#[]⟩, .string ⟨#[]⟩]), 3, 40) := by kernel_rfl
theorem made_known {w : World} {g n : Nat} (h : w.heap[g]? = some (.cells (madeCells #[.bool false, .string ⟨#[]⟩, .string ⟨#[]⟩] (n * 3)) 58 (0, 0))) : KnAt w g (List.replicate n none) := by
  have hc := fun j => cell_of_row w g j _ _ _ h
  have hg : ∀ j, (List.replicate n (none : Option Kn)).getD j none = none := fun j => by
    rw [List.getD_eq_getElem?_getD, List.getElem?_replicate]; split <;> rfl
  refine ⟨⟨_, h, by rw [size_madeCells, List.length_replicate]⟩, fun j hj => ?_, fun j hj => ?_, fun j hj => ?_⟩ <;> rw [List.length_replicate] at hj
  · have e : j * 3 % 3 = 0 := by omega
    have hl : j * 3 < n * 3 := by omega
    rw [hc, hg]; unfold madeCells; simp [e, hl, kv0]
  · have e : (j * 3 + 1) % 3 = 1 := by omega
    have hl : j * 3 + 1 < n * 3 := by omega
    rw [hc, hg]; unfold madeCells; simp [e, hl, kv1]
  · have e : (j * 3 + 2) % 3 = 2 := by omega
    have hl : j * 3 + 2 < n * 3 := by omega
    rw [hc, hg]; unfold madeCells; simp [e, hl, kv2]
/-- What is known at all places, and what the rest answers. -/
structure LdI (b : List UInt8) (ins : List Ins) (w wr : World) (sg lg at_ : Nat) (R : Bool) (i : Nat) (kl come : List (Option Kn)) : Prop where
  fl : FlI b ins (byteAt b 1) at_ i kl come R
  ty : ComeTy (byteAt b 2) come
  kn : KnAt wr lg kl
  st : wr.heap[sg]? = some (.cells (begO b.length ins) 4 (0, 0))
  bel : Below w.heap.size w wr
  lo : w.heap.size ≤ sg ∧ w.heap.size ≤ lg
theorem LdI.below {b : List UInt8} {ins : List Ins} {w wr w2 : World} {sg lg at_ : Nat} {R : Bool} {i : Nat} {kl come : List (Option Kn)} (h : LdI b ins w wr sg lg at_ R i kl come) (hb : Below wr.heap.size wr w2) : LdI b ins w w2 sg lg at_ R i kl come :=
  ⟨h.fl, h.ty, h.kn.of_block (hb.block _ h.kn.lt), (hb.block _ (lt_of_get h.st)).trans h.st, h.bel.trans (hb.mono h.bel.size), h.lo⟩
end Go.Proofs.YtfkdailfcmnjlaaDoor
