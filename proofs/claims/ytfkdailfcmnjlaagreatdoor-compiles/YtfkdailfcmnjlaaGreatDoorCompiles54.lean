/-
  The document's Judge: what it has in memory between the instructions.
-/
import Derived.Test.YtfkdailfcmnjlaaGreatDoorCompiles01
import Derived.Test.YtfkdailfcmnjlaaGreatDoorCompiles02
import Derived.Test.YtfkdailfcmnjlaaGreatDoorCompiles04
import Derived.Test.YtfkdailfcmnjlaaGreatDoorCompiles05
import Derived.Test.YtfkdailfcmnjlaaGreatDoorCompiles06
import Derived.Test.YtfkdailfcmnjlaaGreatDoorCompiles07
import Derived.Test.YtfkdailfcmnjlaaGreatDoorCompiles08
import Derived.Test.YtfkdailfcmnjlaaGreatDoorCompiles09
import Derived.Test.YtfkdailfcmnjlaaGreatDoorCompiles10
import Derived.Test.YtfkdailfcmnjlaaGreatDoorCompiles11
import Derived.Test.YtfkdailfcmnjlaaGreatDoorCompiles12
import Derived.Test.YtfkdailfcmnjlaaGreatDoorCompiles13
import Derived.Test.YtfkdailfcmnjlaaGreatDoorCompiles14
import Derived.Test.YtfkdailfcmnjlaaGreatDoorCompiles15
import Derived.Test.YtfkdailfcmnjlaaGreatDoorCompiles16
import Derived.Test.YtfkdailfcmnjlaaGreatDoorCompiles17
import Derived.Test.YtfkdailfcmnjlaaGreatDoorCompiles18
import Derived.Test.YtfkdailfcmnjlaaGreatDoorCompiles19
import Derived.Test.YtfkdailfcmnjlaaGreatDoorCompiles20
import Derived.Test.YtfkdailfcmnjlaaGreatDoorCompiles21
import Derived.Test.YtfkdailfcmnjlaaGreatDoorCompiles22
import Derived.Test.YtfkdailfcmnjlaaGreatDoorCompiles23
import Derived.Test.YtfkdailfcmnjlaaGreatDoorCompiles24
import Derived.Test.YtfkdailfcmnjlaaGreatDoorCompiles27
import Derived.Test.YtfkdailfcmnjlaaGreatDoorCompiles28
import Derived.Test.YtfkdailfcmnjlaaGreatDoorCompiles29
import Derived.Test.YtfkdailfcmnjlaaGreatDoorCompiles30
import Derived.Test.YtfkdailfcmnjlaaGreatDoorCompiles31
import Derived.Test.YtfkdailfcmnjlaaGreatDoorCompiles32
import Derived.Test.YtfkdailfcmnjlaaGreatDoorCompiles34
import Derived.Test.YtfkdailfcmnjlaaGreatDoorCompiles35
import Derived.Test.YtfkdailfcmnjlaaGreatDoorCompiles36
import Derived.Test.YtfkdailfcmnjlaaGreatDoorCompiles37
import Derived.Test.YtfkdailfcmnjlaaGreatDoorCompiles38
import Derived.Test.YtfkdailfcmnjlaaGreatDoorCompiles39
import Derived.Test.YtfkdailfcmnjlaaGreatDoorCompiles43
import Derived.Test.YtfkdailfcmnjlaaGreatDoorCompiles44
import Derived.Test.YtfkdailfcmnjlaaGreatDoorCompiles53
import Derived.Test.YtfkdailfcmnjlaaGreatDoorLays
import Derived.Test.YtfkdailfcmnjlaaGreatDoorLays2
import Derived.WalkKit
import Derived.Deep.QuietTactic
import Derived.BigQuiet
import Derived.WalkSpells
import GoSem.Op.String
import Derived.Deep.AppendLies
import Derived.Deep.RegionHeld3
import Derived.Deep.DrawnRows
import Derived.Deep.RegionHeldLaw
import Derived.Deep.RegionLaw
import Derived.Lib.ParseIntBCases
import Derived.Deep.OwnRows
import Derived.Lib.LaidTab
import Derived.Lib.AppendIntMem
import Derived.Shelf.Strings.Builder1
import Derived.Laws.CopyOwn
import Derived.Deep.DeepCutAuto
import Derived.WalkSmall
import Derived.Lib.AppendZerosOnto
import Derived.Lib.SliceRun
set_option linter.unusedVariables false
set_option linter.unusedSimpArgs false
namespace Go.Proofs.YtfkdailfcmnjlaaGreatDoor
open Go Go.RowKit
set_option maxRecDepth 100000

/-- The cells, 256 of them. -/
def cellO (cl : List Int) : Array Value := ((cl ++ List.replicate (256 - cl.length) 0).map (Value.int .i64)).toArray
theorem cellO_size {cl : List Int} (h : cl.length ≤ 256) : (cellO cl).size = 256 := by unfold cellO; simp; omega
theorem cellO_at {cl : List Int} {n : Nat} (h : n < cl.length) : (cellO cl)[n]? = some (.int .i64 (cl.getD n 0)) := by
  unfold cellO
  rw [List.getElem?_toArray, List.getElem?_map, List.getElem?_append_left h, List.getD_eq_getElem?_getD, List.getElem?_eq_getElem h]; rfl
theorem cellO_set {cl : List Int} {n : Nat} (h : n < cl.length) (v : Int) : (cellO cl).setIfInBounds n (.int .i64 v) = cellO (cl.set n v) := by
  unfold cellO
  rw [List.length_set, ← List.set_append_left _ _ h, List.map_set]
  simp
theorem cellO_made {n : Nat} (h : n ≤ 256) : madeCells #[.int .i64 0] 256 = cellO (List.replicate n 0) := by
  apply Array.ext
  · rw [size_madeCells, cellO_size (by simpa using h)]
  · intro i h1 h2
    have e : (cellO (List.replicate n 0))[i]? = some (.int .i64 0) := by
      rw [cellO_size (by simpa using h)] at h2
      unfold cellO
      rw [List.getElem?_toArray, List.getElem?_map, List.length_replicate]
      by_cases hi : i < n
      · rw [List.getElem?_append_left (by simpa using hi), List.getElem?_replicate, if_pos hi]; rfl
      · rw [List.getElem?_append_right (by simp; omega), List.getElem?_replicate, if_pos (by simp; omega)]; rfl
    rw [Array.getElem?_eq_getElem h2] at e
    injection e with e
    rw [e]
    simp [madeCells, Nat.mod_one]
def signO : Array Value := #[S [43], S [45], S [61], S [60], S [60, 61]]
structure RJ (w wr : World) (cp gf gs gc : Nat) (b : List UInt8) (fl : List Int) (vs : Value) (st cl : List Int) : Prop where
  code : wr.heap[cp]? = some (.cells #[S b] 130 (0, 0))
  sta : IR wr 2 vs st.reverse
  own : ∀ g, vs.ownBlock = some g → w.heap.size ≤ g ∧ g ≠ gf ∧ g ≠ gs ∧ g ≠ gc
  cel : wr.heap[gc]? = some (.cells (cellO cl) 2 (0, 0))
  fld : ∀ j, j < 9 → wr.cell? ⟨gf, j, none⟩ = some (.int .i64 (fl.getD j 0))
  sgn : wr.heap[gs]? = some (.cells signO 9 (0, 0))
  bel : Below w.heap.size w wr
  lo : cp < w.heap.size ∧ True ∧ w.heap.size ≤ gs ∧ w.heap.size ≤ gc ∧ gf < wr.heap.size ∧ gf ≠ gc
theorem RJ.below {w wr w2 : World} {cp gf gs gc : Nat} {b : List UInt8} {fl : List Int} {vs : Value} {st cl : List Int} (h : RJ w wr cp gf gs gc b fl vs st cl) (hb : Below wr.heap.size wr w2) : RJ w w2 cp gf gs gc b fl vs st cl :=
  ⟨(hb.block _ (lt_of_get h.code)).trans h.code, h.sta.only (Only.of_below (F := fun _ => False) hb) (fun _ _ h => h), h.own, (hb.block _ (lt_of_get h.cel)).trans h.cel, fun j hj => by rw [hb.cell (p := ⟨gf, j, none⟩) h.lo.2.2.2.2.1]; exact h.fld j hj, (hb.block _ (lt_of_get h.sgn)).trans h.sgn, h.bel.trans (hb.mono h.bel.size), ⟨h.lo.1, h.lo.2.1, h.lo.2.2.1, h.lo.2.2.2.1, Nat.lt_of_lt_of_le h.lo.2.2.2.2.1 hb.size, h.lo.2.2.2.2.2⟩⟩
/-- Another stack, in a block of its own. -/
theorem RJ.stack {w wr w2 : World} {cp gf gs gc : Nat} {b : List UInt8} {fl : List Int} {vs vs2 : Value} {st st2 cl : List Int} (h : RJ w wr cp gf gs gc b fl vs st cl) {F : Nat → Prop} (ho : Only F wr w2) (hF : ∀ g, F g → vs.ownBlock = some g) (hs : IR w2 2 vs2 st2.reverse) (hown : ∀ g, vs2.ownBlock = some g → vs.ownBlock = some g ∨ wr.heap.size ≤ g) : RJ w w2 cp gf gs gc b fl vs2 st2 cl := by
  obtain ⟨l1, l2, l3, l4, l5, l6⟩ := h.lo
  have hn : ∀ q, q < wr.heap.size → (q < w.heap.size ∨ q = gf ∨ q = gs ∨ q = gc) → w2.heap[q]? = wr.heap[q]? := fun q hq hc => ho.block q hq (fun f => by
    obtain ⟨o1, o2, o3, o4⟩ := h.own q (hF q f)
    omega)
  have ls := h.bel.size
  refine ⟨(hn cp (by omega) (by omega)).trans h.code, hs, fun g hg => ?_, (hn gc (lt_of_get h.cel) (by omega)).trans h.cel, fun j hj => ?_, (hn gs (lt_of_get h.sgn) (by omega)).trans h.sgn, h.bel.trans (ho.below h.bel.size (fun k hk f => (h.own k (hF k f)).1)), ⟨l1, l2, l3, l4, Nat.lt_of_lt_of_le l5 ho.size, l6⟩⟩
  · rcases hown g hg with o | o
    · exact h.own g o
    · have := lt_of_get h.cel
      have := lt_of_get h.sgn
      omega
  · rw [World.cell?_of_block (w := wr) (a := ⟨gf, j, none⟩) (hn gf l5 (by omega))]; exact h.fld j hj
theorem RJ.form {w wr : World} {cp gf gs gc : Nat} {b : List UInt8} {fl : List Int} {vs : Value} {v : Int} {r cl : List Int} (h : RJ w wr cp gf gs gc b fl vs (v :: r) cl) : ∃ g cap, vs = .slice (some ⟨g, 0, none⟩) (r.length + 1) cap ∧ r.length + 1 ≤ cap := by
  obtain ⟨g, cap, e, hg⟩ := h.sta.form (by simp)
  have hc : (v :: r).reverse.length ≤ cap := by have := h.sta; rw [e] at this; exact this.cap
  refine ⟨g, cap, by simpa using e, by simpa using hc⟩
theorem RJ.top {w wr : World} {cp gf gs gc g cap : Nat} {b : List UInt8} {fl : List Int} {v : Int} {r cl : List Int} (h : RJ w wr cp gf gs gc b fl (.slice (some ⟨g, 0, none⟩) (r.length + 1) cap) (v :: r) cl) : wr.cell? ⟨g, r.length, none⟩ = some (.int .i64 v) ∧ ∀ j, wr.frozen? ⟨g, j, none⟩ = false := by
  refine ⟨?_, fun j => h.sta.frz j⟩
  rw [h.sta.cell (k := r.length) (by simp)]
  simp
theorem RJ.sec {w wr : World} {cp gf gs gc g cap : Nat} {b : List UInt8} {fl : List Int} {v u : Int} {r cl : List Int} (h : RJ w wr cp gf gs gc b fl (.slice (some ⟨g, 0, none⟩) (r.length + 1 + 1) cap) (v :: u :: r) cl) : wr.cell? ⟨g, r.length, none⟩ = some (.int .i64 u) := by
  rw [h.sta.cell (k := r.length) (by simp)]
  simp [List.append_assoc]
theorem RJ.pop {w wr : World} {cp gf gs gc g cap : Nat} {b : List UInt8} {fl : List Int} {v : Int} {r cl : List Int} (h : RJ w wr cp gf gs gc b fl (.slice (some ⟨g, 0, none⟩) (r.length + 1) cap) (v :: r) cl) : RJ w wr cp gf gs gc b fl (.slice (some ⟨g, 0, none⟩) r.length cap) r cl := by
  have hs := h.sta
  rw [List.reverse_cons] at hs
  have hs2 : IR wr 2 (.slice (some ⟨g, 0, none⟩) (r.reverse.length + 1) cap) (r.reverse ++ [v]) := by simpa using hs
  have hs3 := hs2.pop
  rw [List.length_reverse] at hs3
  exact h.stack (Only.refl (fun _ => False) wr) (fun _ f => f.elim) hs3 (fun g' hg => .inl hg)
theorem RJ.set1 {w wr : World} {cp gf gs gc g cap : Nat} {b : List UInt8} {fl : List Int} {v : Int} {r cl : List Int} (h : RJ w wr cp gf gs gc b fl (.slice (some ⟨g, 0, none⟩) (r.length + 1) cap) (v :: r) cl) (y : Int) : RJ w (wr.setCell ⟨g, r.length, none⟩ (.int .i64 y)) cp gf gs gc b fl (.slice (some ⟨g, 0, none⟩) (r.length + 1) cap) (y :: r) cl := by
  have hs2 : IR wr 2 (.slice (some ⟨g, 0, none⟩) (v :: r).reverse.length cap) (v :: r).reverse := by simpa using h.sta
  have hs3 := hs2.set (j := r.length) (by simp) y
  have e : (v :: r).reverse.set r.length y = (y :: r).reverse := by
    rw [List.reverse_cons, List.reverse_cons, List.set_append_right _ _ (by simp)]
    simp
  rw [e] at hs3
  exact h.stack (F := fun q => q = g) ((Only.refl (fun q => q = g) wr).setCell (.inl rfl) _) (fun q f => by subst f; rfl) (by simpa using hs3) (fun g' hg => .inl hg)
theorem RJ.set2 {w wr : World} {cp gf gs gc g cap : Nat} {b : List UInt8} {fl : List Int} {v u : Int} {r cl : List Int} (h : RJ w wr cp gf gs gc b fl (.slice (some ⟨g, 0, none⟩) (r.length + 1 + 1) cap) (v :: u :: r) cl) (y : Int) : RJ w (wr.setCell ⟨g, r.length, none⟩ (.int .i64 y)) cp gf gs gc b fl (.slice (some ⟨g, 0, none⟩) (r.length + 1 + 1) cap) (v :: y :: r) cl := by
  have hs2 : IR wr 2 (.slice (some ⟨g, 0, none⟩) (v :: u :: r).reverse.length cap) (v :: u :: r).reverse := by simpa using h.sta
  have hs3 := hs2.set (j := r.length) (by simp) y
  have e : (v :: u :: r).reverse.set r.length y = (v :: y :: r).reverse := by
    rw [List.reverse_cons, List.reverse_cons, List.reverse_cons, List.reverse_cons, List.append_assoc, List.append_assoc, List.set_append_right _ _ (by simp)]
    simp
  rw [e] at hs3
  exact h.stack (F := fun q => q = g) ((Only.refl (fun q => q = g) wr).setCell (.inl rfl) _) (fun q f => by subst f; rfl) (by simpa using hs3) (fun g' hg => .inl hg)
theorem RJ.put {w wr : World} {cp gf gs gc : Nat} {b : List UInt8} {fl : List Int} {vs : Value} {st cl : List Int} (h : RJ w wr cp gf gs gc b fl vs st cl) {n : Nat} (hn : n < cl.length) (v : Int) : RJ w (wr.setCell ⟨gc, n, none⟩ (.int .i64 v)) cp gf gs gc b fl vs st (cl.set n v) := by
  obtain ⟨l1, l2, l3, l4, l5, l6⟩ := h.lo
  have hfar : ∀ q, q ≠ gc → (wr.setCell ⟨gc, n, none⟩ (.int .i64 v)).heap[q]? = wr.heap[q]? := fun q hq => Below.heap_setCell _ _ _ _ (by simpa using hq)
  have hsc : gs ≠ gc := fun e => by
    have h1 := h.sgn
    rw [e, h.cel] at h1; simp at h1
  refine ⟨(hfar cp (by omega)).trans h.code, ?_, h.own, ?_, fun j hj => ?_, (hfar gs hsc).trans h.sgn, h.bel.setCell (by simpa using l4) _, ⟨l1, l2, l3, l4, by simpa using l5, l6⟩⟩
  · exact h.sta.only ((Only.refl (fun q => q = gc) wr).setCell (.inl rfl) _) (fun g hg f => (h.own g hg).2.2.2 f)
  · rw [heap_setCell_same wr gc n _ _ _ h.cel, cellO_set hn]
  · rw [World.cell?_of_block (w := wr) (a := ⟨gf, j, none⟩) (hfar gf l6)]; exact h.fld j hj
theorem RJ.cell {w wr : World} {cp gf gs gc : Nat} {b : List UInt8} {fl : List Int} {vs : Value} {st cl : List Int} (h : RJ w wr cp gf gs gc b fl vs st cl) {n : Nat} (hn : n < cl.length) : wr.cell? ⟨gc, n, none⟩ = some (.int .i64 (cl.getD n 0)) ∧ wr.frozen? ⟨gc, n, none⟩ = false := by
  refine ⟨?_, by simp [World.frozen?, h.cel]⟩
  rw [cell_of_row wr gc n _ _ _ h.cel, cellO_at hn]
/-- Where the machine stands, plainly. -/
structure RSj (b : List UInt8) (ins : List Ins) (fl : List Int) (cells : Nat) (C : Nat → Option Kn) (A : Bool) (Ru St : Nat) (i : Nat) (k : Kn) (st cl : List Int) (f q : Nat) : Prop where
  hi : i < ins.length
  hC : C i = some k
  fit : Fits k cells st cl
  dep : st.length ≤ 24
  le : q ≤ i
  run : runK ins fl f i st cl q = some (A, Ru, St)
theorem RSj.stop {b : List UInt8} {ins : List Ins} {fl : List Int} {cells : Nat} {C : Nat → Option Kn} {A : Bool} {Ru St i : Nat} {k : Kn} {st cl : List Int} {f q : Nat} (h : RSj b ins fl cells C A Ru St i k st cl f q) (h17 : (ins.getD i noIns).op = 17 ∨ (ins.getD i noIns).op = 18) : A = decide ((ins.getD i noIns).op = 17) ∧ Ru = (ins.getD i noIns).n.toNat ∧ St = q + 1 := by
  have hr := h.run
  cases f with
  | zero => simp [runK] at hr
  | succ f =>
    rw [runK, if_pos h.hi, if_pos h17] at hr
    simp only [Option.some.injEq, Prod.mk.injEq] at hr
    exact ⟨hr.1.symm, hr.2.1.symm, hr.2.2.symm⟩
theorem RSj.step {b : List UInt8} {ins : List Ins} {fl : List Int} {cells depth : Nat} {C : Nat → Option Kn} {A : Bool} {Ru St i : Nat} {k : Kn} {st cl : List Int} {f q : Nat} (h : RSj b ins fl cells C A Ru St i k st cl f q) (hok : CodeOK b ins) (hcl : byteAt b 2 = cells) (hd24 : depth ≤ 24) (hF : FieldsT fl) (hG : Good ins depth 0 C) (h17 : ¬ ((ins.getD i noIns).op = 17 ∨ (ins.getD i noIns).op = 18)) :
    ∃ k' st' cl' j t kq f', doesK (ins.getD i noIns).op (ins.getD i noIns).n.toNat k = some k' ∧ stepK fl (ins.getD i noIns) st cl = some (st', cl', j) ∧ (ins.getD t noIns).pl = (if j then (ins.getD i noIns).pl + 3 + (ins.getD i noIns).n.toNat else (ins.getD i noIns).pl + sizeOp (ins.getD i noIns).op) ∧ i < t ∧ RSj b ins fl cells C A Ru St t kq st' cl' f' (q + 1) := by
  have hx := num_ok (hok.each _ (getD_ins h.hi))
  rw [hcl] at hx
  have hrun := h.run
  obtain ⟨f', rfl⟩ : ∃ f', f = f' + 1 := by
    cases f with
    | zero => simp [runK] at hrun
    | succ f' => exact ⟨f', rfl⟩
  rw [runK, if_pos h.hi, if_neg h17] at hrun
  obtain ⟨k', hdk, hdp, hlead⟩ := hG i (Nat.zero_le _) h.hi k h.hC
  obtain ⟨st', cl', j, hs, hft', hj, h16⟩ := step_fits hx hF h.fit hdk h17
  rw [hs] at hrun
  have hnx2 := next_in (ins := ins) (i := i) hj h16 h17
  obtain ⟨t, e, h1, h2, h3⟩ := hlead _ hnx2
  obtain ⟨kq, e2, e3, e4⟩ := h3 k' rfl
  have hftq : Fits kq cells st' cl' := ⟨by rw [e3]; exact hft'.typ, hft'.cel.less e4, hft'.len⟩
  have hl' : st'.length ≤ 24 := by rw [hft'.typ.len]; omega
  refine ⟨k', st', cl', j, t, kq, f', hdk, hs, ?_, h1, ⟨h2, e2, hftq, hl', by have := h.le; omega, ?_⟩⟩
  · cases j with
    | true =>
      have e : jumpTo ins (ins.getD i noIns) = some t := e
      have := jump_fwd hok h.hi e
      rw [if_pos rfl]; exact this.2.2
    | false =>
      have e : (if i + 1 < ins.length then some (i + 1) else none) = some t := e
      split at e
      · rename_i g
        simp at e
        subst e
        rw [if_neg (by decide)]
        exact (behind_next hok.order i h.hi).1 g
      · cases e
  · cases j with
    | true =>
      have e : jumpTo ins (ins.getD i noIns) = some t := e
      simp only [] at hrun
      rw [e] at hrun
      exact hrun
    | false =>
      have e : (if i + 1 < ins.length then some (i + 1) else none) = some t := e
      simp only [] at hrun
      split at e
      · simp at e; rw [← e]; exact hrun
      · cases e
end Go.Proofs.YtfkdailfcmnjlaaGreatDoor
