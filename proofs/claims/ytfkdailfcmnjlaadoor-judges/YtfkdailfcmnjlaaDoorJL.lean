/-
  The document's Load, whole; its reading of a number. The document's Judge: what it has in memory between the instructions. The program looks a code through.
-/
import Derived.Test.YtfkdailfcmnjlaaDoorJA
import Derived.Test.YtfkdailfcmnjlaaDoorJB
import Derived.Test.YtfkdailfcmnjlaaDoorJC
import Derived.Test.YtfkdailfcmnjlaaDoorJD
import Derived.Test.YtfkdailfcmnjlaaDoorJE
import Derived.Test.YtfkdailfcmnjlaaDoorJF
import Derived.Test.YtfkdailfcmnjlaaDoorJG
import Derived.Test.YtfkdailfcmnjlaaDoorJH
import Derived.Test.YtfkdailfcmnjlaaDoorJI
import Derived.Test.YtfkdailfcmnjlaaDoorJJ
import Derived.Test.YtfkdailfcmnjlaaDoorJK
set_option linter.unusedVariables false
set_option linter.unusedSimpArgs false
namespace Go.Proofs.YtfkdailfcmnjlaaDoor
open Go Go.RowKit
set_option maxRecDepth 100000
attribute [local go_sem ↓] Go.wp_at_zero Go.wp_at_succ

theorem rload_any (b : List UInt8) (w : World) : Calls Tryd.prog 6 #[S b] w fun e w' => RLoadAns b w.heap.size (loadOf b) e w' ∧ Below w.heap.size w w' := by
  by_cases h : b.length < 4 ∨ 4000 < b.length ∨ byteAt b 0 ≠ 71 ∨ 24 < byteAt b 1
  · have e : loadOf b = none := by unfold loadOf; rw [if_pos h]
    rw [e]
    exact rload_bad h w
  · have h1 : 4 ≤ b.length := by omega
    have h2 : b.length ≤ 4000 := by omega
    have h3 : byteAt b 0 = 71 := by omega
    have h4 : byteAt b 1 ≤ 24 := by omega
    cases hd : dec (b.length + 1) b 3 with
    | none =>
      have e : loadOf b = none := by unfold loadOf; rw [if_neg h, hd]
      rw [e]
      exact rload_none h1 h2 h3 h4 hd w
    | some ins =>
      have h0 : 0 < ins.length := by
        rw [dec, if_neg (by omega)] at hd
        split at hd
        · cases hq : dec b.length b (3 + sizeOp (byteAt b 3)) with
          | none => rw [hq] at hd; cases hd
          | some l => rw [hq] at hd; cases hd; simp
        · cases hd
      have e : loadOf b = if flowK ins (byteAt b 1) ins 0 (come0 (byteAt b 2) ins.length) then some ins else none := by unfold loadOf; rw [if_neg h, hd]
      rw [e]
      exact rload_some h1 h2 h3 h4 hd h0 w
theorem u64_step {V c : Nat} (hV : V < 18446744073709551616) (hc : c < 256) : IntKind.u64.wrap (IntKind.u64.wrap ((V : Int) * 256) + (c : Int)) = ((V * 256 + c) % 18446744073709551616 : Nat) := by
  unfold IntKind.wrap; simp [IntKind.signed, IntKind.bits]
/-- The number that bytes are, within 64 bits. -/
def beU (l : List UInt8) (k : Nat) : Nat := beVal l 0 k % 18446744073709551616
set_option maxHeartbeats 2000000 in
theorem rnumber_any (l : List UInt8) (hl : 8 ≤ l.length) (hl2 : l.length ≤ 4000) (w : World) : Calls Tryd.prog 29 #[S l] w fun e w' => e = .returned (.int .i64 (signed64 (beVal l 0 8))) ∧ w' = w := by
  have HV : Hid (∀ k, k < 8 → beU l k < 18446744073709551616 ∧ beU l (k + 1) = (beU l k * 256 + byteAt l k) % 18446744073709551616) := fun k hk => by
    refine ⟨Nat.mod_lt _ (by decide), ?_⟩
    unfold beU
    rw [beVal, Nat.zero_add]; omega
  have HE : Hid (beU l 8 = beVal l 0 8 ∧ beVal l 0 8 < 18446744073709551616) := by
    have h1 := beVal_lt l 0 8
    have h2 : (256 : Nat) ^ 8 = 18446744073709551616 := by decide
    rw [h2] at h1
    exact ⟨Nat.mod_eq_of_lt h1, h1⟩
  go_enter Tryd.func29, Tryd.ntmps29
  go_wp2_with fail
  go_loop [3, 4] (fun nv kv => ∃ k : Nat, k ≤ 8 ∧ kv = .int .i64 k ∧ nv = .int .u64 (beU l k : Nat)) (fun _ kv => 8 - (intOf kv).toNat)
  case atStart => exact ⟨0, Nat.zero_le _, rfl, rfl⟩
  case round =>
    obtain ⟨k, hk, rfl, rfl⟩ := hrel
    by_cases hlt : k < 8
    · obtain ⟨h1, h2⟩ := HV.out k hlt
      have hsz : k < (ByteArray.mk l.toArray).size := by show k < l.length; omega
      have hba : ((ByteArray.mk l.toArray)[k]).toNat = byteAt l k := ba_at l k hsz
      have hc : byteAt l k < 256 := byte_lt l k
      have HOB : Hid _ := u64_step h1 hc
      have HN : Hid _ := h2
      have q0 : (0 : Int) ≤ (k : Int) ∧ (k : Int) < (l.length : Int) := by omega
      clear h2
      generalize beU l k = V at *
      generalize byteAt l k = q at *
      go_wp2
      exact ⟨⟨k + 1, by omega, by go_num, by rw [HOB.out, HN.out]⟩, by simp [intOf]; omega⟩
    · obtain rfl : k = 8 := by omega
      have HR : Hid (RowKit.wrap64 ((beU l 8 : Nat) : Int) = signed64 (beVal l 0 8)) := by
        show _ = _
        obtain ⟨h1, h2⟩ := HE.out
        rw [h1]
        unfold RowKit.wrap64 signed64
        split <;> omega
      go_wp2
      go_ret
      exact ⟨ret_int HR.out, rfl⟩
end Go.Proofs.YtfkdailfcmnjlaaDoor

namespace Go.Proofs.YtfkdailfcmnjlaaDoor
open Go Go.RowKit
set_option maxRecDepth 100000

/-- The cells, 256 of them. -/
def cellO (cl : List Int) : Array Value := ((cl ++ List.replicate (256 - cl.length) 0).map (Value.int .i64)).toArray
theorem cellO_size {cl : List Int} (h : cl.length ≤ 256) : (cellO cl).size = 256 := by unfold cellO; simp; omega
theorem cellO_at {cl : List Int} {n : Nat} (h : n < cl.length) : (cellO cl)[n]? = some (.int .i64 (cl.getD n 0)) := by
  unfold cellO
  rw [List.getElem?_toArray, List.getElem?_map, List.getElem?_append_left h, List.getD_eq_getElem?_getD, List.getElem?_eq_getElem h]; rfl
theorem cellO_set {cl : List Int} {n : Nat} (h : n < cl.length) (v : Int) : (cellO cl).setIfInBounds n (.int .i64 v) = cellO (cl.set n v) := by
  unfold cellO
  rw [List.length_set, ← List.set_append_left _ _ h, List.map_set]
  simp
theorem cellO_made {n : Nat} (h : n ≤ 256) : madeCells #[.int .i64 0] 256 = cellO (List.replicate n 0) := by
  apply Array.ext
  · rw [size_madeCells, cellO_size (by simpa using h)]
  · intro i h1 h2
    have e : (cellO (List.replicate n 0))[i]? = some (.int .i64 0) := by
      rw [cellO_size (by simpa using h)] at h2
      unfold cellO
      rw [List.getElem?_toArray, List.getElem?_map, List.length_replicate]
      by_cases hi : i < n
      · rw [List.getElem?_append_left (by simpa using hi), List.getElem?_replicate, if_pos hi]; rfl
      · rw [List.getElem?_append_right (by simp; omega), List.getElem?_replicate, if_pos (by simp; omega)]; rfl
    rw [Array.getElem?_eq_getElem h2] at e
    injection e with e
    rw [e]
    simp [madeCells, Nat.mod_one]
def signO : Array Value := #[S [43], S [45], S [61], S [60], S [60, 61]]
structure RJ (w wr : World) (cp gf gs gc : Nat) (b : List UInt8) (fl : List Int) (vs : Value) (st cl : List Int) : Prop where
  code : wr.heap[cp]? = some (.cells #[S b] 65 (0, 0))
  sta : IR wr 2 vs st.reverse
  own : ∀ g, vs.ownBlock = some g → w.heap.size ≤ g ∧ g ≠ gf ∧ g ≠ gs ∧ g ≠ gc
  cel : wr.heap[gc]? = some (.cells (cellO cl) 2 (0, 0))
  fld : ∀ j, j < 9 → wr.cell? ⟨gf, j, none⟩ = some (.int .i64 (fl.getD j 0))
  sgn : wr.heap[gs]? = some (.cells signO 9 (0, 0))
  bel : Below w.heap.size w wr
  lo : cp < w.heap.size ∧ True ∧ w.heap.size ≤ gs ∧ w.heap.size ≤ gc ∧ gf < wr.heap.size ∧ gf ≠ gc
theorem RJ.below {w wr w2 : World} {cp gf gs gc : Nat} {b : List UInt8} {fl : List Int} {vs : Value} {st cl : List Int} (h : RJ w wr cp gf gs gc b fl vs st cl) (hb : Below wr.heap.size wr w2) : RJ w w2 cp gf gs gc b fl vs st cl :=
  ⟨(hb.block _ (lt_of_get h.code)).trans h.code, h.sta.only (Only.of_below (F := fun _ => False) hb) (fun _ _ h => h), h.own, (hb.block _ (lt_of_get h.cel)).trans h.cel, fun j hj => by rw [hb.cell (p := ⟨gf, j, none⟩) h.lo.2.2.2.2.1]; exact h.fld j hj, (hb.block _ (lt_of_get h.sgn)).trans h.sgn, h.bel.trans (hb.mono h.bel.size), ⟨h.lo.1, h.lo.2.1, h.lo.2.2.1, h.lo.2.2.2.1, Nat.lt_of_lt_of_le h.lo.2.2.2.2.1 hb.size, h.lo.2.2.2.2.2⟩⟩
/-- Another stack, in a block of its own. -/
theorem RJ.stack {w wr w2 : World} {cp gf gs gc : Nat} {b : List UInt8} {fl : List Int} {vs vs2 : Value} {st st2 cl : List Int} (h : RJ w wr cp gf gs gc b fl vs st cl) {F : Nat → Prop} (ho : Only F wr w2) (hF : ∀ g, F g → vs.ownBlock = some g) (hs : IR w2 2 vs2 st2.reverse) (hown : ∀ g, vs2.ownBlock = some g → vs.ownBlock = some g ∨ wr.heap.size ≤ g) : RJ w w2 cp gf gs gc b fl vs2 st2 cl := by
  obtain ⟨l1, l2, l3, l4, l5, l6⟩ := h.lo
  have hn : ∀ q, q < wr.heap.size → (q < w.heap.size ∨ q = gf ∨ q = gs ∨ q = gc) → w2.heap[q]? = wr.heap[q]? := fun q hq hc => ho.block q hq (fun f => by
    obtain ⟨o1, o2, o3, o4⟩ := h.own q (hF q f)
    omega)
  have ls := h.bel.size
  refine ⟨(hn cp (by omega) (by omega)).trans h.code, hs, fun g hg => ?_, (hn gc (lt_of_get h.cel) (by omega)).trans h.cel, fun j hj => ?_, (hn gs (lt_of_get h.sgn) (by omega)).trans h.sgn, h.bel.trans (ho.below h.bel.size (fun k hk f => (h.own k (hF k f)).1)), ⟨l1, l2, l3, l4, Nat.lt_of_lt_of_le l5 ho.size, l6⟩⟩
  · rcases hown g hg with o | o
    · exact h.own g o
    · have := lt_of_get h.cel
      have := lt_of_get h.sgn
      omega
  · rw [World.cell?_of_block (w := wr) (a := ⟨gf, j, none⟩) (hn gf l5 (by omega))]; exact h.fld j hj
theorem RJ.form {w wr : World} {cp gf gs gc : Nat} {b : List UInt8} {fl : List Int} {vs : Value} {v : Int} {r cl : List Int} (h : RJ w wr cp gf gs gc b fl vs (v :: r) cl) : ∃ g cap, vs = .slice (some ⟨g, 0, none⟩) (r.length + 1) cap ∧ r.length + 1 ≤ cap := by
  obtain ⟨g, cap, e, hg⟩ := h.sta.form (by simp)
  have hc : (v :: r).reverse.length ≤ cap := by have := h.sta; rw [e] at this; exact this.cap
  refine ⟨g, cap, by simpa using e, by simpa using hc⟩
theorem RJ.top {w wr : World} {cp gf gs gc g cap : Nat} {b : List UInt8} {fl : List Int} {v : Int} {r cl : List Int} (h : RJ w wr cp gf gs gc b fl (.slice (some ⟨g, 0, none⟩) (r.length + 1) cap) (v :: r) cl) : wr.cell? ⟨g, r.length, none⟩ = some (.int .i64 v) ∧ ∀ j, wr.frozen? ⟨g, j, none⟩ = false := by
  refine ⟨?_, fun j => h.sta.frz j⟩
  rw [h.sta.cell (k := r.length) (by simp)]
  simp
theorem RJ.sec {w wr : World} {cp gf gs gc g cap : Nat} {b : List UInt8} {fl : List Int} {v u : Int} {r cl : List Int} (h : RJ w wr cp gf gs gc b fl (.slice (some ⟨g, 0, none⟩) (r.length + 1 + 1) cap) (v :: u :: r) cl) : wr.cell? ⟨g, r.length, none⟩ = some (.int .i64 u) := by
  rw [h.sta.cell (k := r.length) (by simp)]
  simp [List.append_assoc]
theorem RJ.pop {w wr : World} {cp gf gs gc g cap : Nat} {b : List UInt8} {fl : List Int} {v : Int} {r cl : List Int} (h : RJ w wr cp gf gs gc b fl (.slice (some ⟨g, 0, none⟩) (r.length + 1) cap) (v :: r) cl) : RJ w wr cp gf gs gc b fl (.slice (some ⟨g, 0, none⟩) r.length cap) r cl := by
  have hs := h.sta
  rw [List.reverse_cons] at hs
  have hs2 : IR wr 2 (.slice (some ⟨g, 0, none⟩) (r.reverse.length + 1) cap) (r.reverse ++ [v]) := by simpa using hs
  have hs3 := hs2.pop
  rw [List.length_reverse] at hs3
  exact h.stack (Only.refl (fun _ => False) wr) (fun _ f => f.elim) hs3 (fun g' hg => .inl hg)
theorem RJ.set1 {w wr : World} {cp gf gs gc g cap : Nat} {b : List UInt8} {fl : List Int} {v : Int} {r cl : List Int} (h : RJ w wr cp gf gs gc b fl (.slice (some ⟨g, 0, none⟩) (r.length + 1) cap) (v :: r) cl) (y : Int) : RJ w (wr.setCell ⟨g, r.length, none⟩ (.int .i64 y)) cp gf gs gc b fl (.slice (some ⟨g, 0, none⟩) (r.length + 1) cap) (y :: r) cl := by
  have hs2 : IR wr 2 (.slice (some ⟨g, 0, none⟩) (v :: r).reverse.length cap) (v :: r).reverse := by simpa using h.sta
  have hs3 := hs2.set (j := r.length) (by simp) y
  have e : (v :: r).reverse.set r.length y = (y :: r).reverse := by
    rw [List.reverse_cons, List.reverse_cons, List.set_append_right _ _ (by simp)]
    simp
  rw [e] at hs3
  exact h.stack (F := fun q => q = g) ((Only.refl (fun q => q = g) wr).setCell (.inl rfl) _) (fun q f => by subst f; rfl) (by simpa using hs3) (fun g' hg => .inl hg)
theorem RJ.set2 {w wr : World} {cp gf gs gc g cap : Nat} {b : List UInt8} {fl : List Int} {v u : Int} {r cl : List Int} (h : RJ w wr cp gf gs gc b fl (.slice (some ⟨g, 0, none⟩) (r.length + 1 + 1) cap) (v :: u :: r) cl) (y : Int) : RJ w (wr.setCell ⟨g, r.length, none⟩ (.int .i64 y)) cp gf gs gc b fl (.slice (some ⟨g, 0, none⟩) (r.length + 1 + 1) cap) (v :: y :: r) cl := by
  have hs2 : IR wr 2 (.slice (some ⟨g, 0, none⟩) (v :: u :: r).reverse.length cap) (v :: u :: r).reverse := by simpa using h.sta
  have hs3 := hs2.set (j := r.length) (by simp) y
  have e : (v :: u :: r).reverse.set r.length y = (v :: y :: r).reverse := by
    rw [List.reverse_cons, List.reverse_cons, List.reverse_cons, List.reverse_cons, List.append_assoc, List.append_assoc, List.set_append_right _ _ (by simp)]
    simp
  rw [e] at hs3
  exact h.stack (F := fun q => q = g) ((Only.refl (fun q => q = g) wr).setCell (.inl rfl) _) (fun q f => by subst f; rfl) (by simpa using hs3) (fun g' hg => .inl hg)
theorem RJ.put {w wr : World} {cp gf gs gc : Nat} {b : List UInt8} {fl : List Int} {vs : Value} {st cl : List Int} (h : RJ w wr cp gf gs gc b fl vs st cl) {n : Nat} (hn : n < cl.length) (v : Int) : RJ w (wr.setCell ⟨gc, n, none⟩ (.int .i64 v)) cp gf gs gc b fl vs st (cl.set n v) := by
  obtain ⟨l1, l2, l3, l4, l5, l6⟩ := h.lo
  have hfar : ∀ q, q ≠ gc → (wr.setCell ⟨gc, n, none⟩ (.int .i64 v)).heap[q]? = wr.heap[q]? := fun q hq => Below.heap_setCell _ _ _ _ (by simpa using hq)
  have hsc : gs ≠ gc := fun e => by
    have h1 := h.sgn
    rw [e, h.cel] at h1; simp at h1
  refine ⟨(hfar cp (by omega)).trans h.code, ?_, h.own, ?_, fun j hj => ?_, (hfar gs hsc).trans h.sgn, h.bel.setCell (by simpa using l4) _, ⟨l1, l2, l3, l4, by simpa using l5, l6⟩⟩
  · exact h.sta.only ((Only.refl (fun q => q = gc) wr).setCell (.inl rfl) _) (fun g hg f => (h.own g hg).2.2.2 f)
  · rw [heap_setCell_same wr gc n _ _ _ h.cel, cellO_set hn]
  · rw [World.cell?_of_block (w := wr) (a := ⟨gf, j, none⟩) (hfar gf l6)]; exact h.fld j hj
theorem RJ.cell {w wr : World} {cp gf gs gc : Nat} {b : List UInt8} {fl : List Int} {vs : Value} {st cl : List Int} (h : RJ w wr cp gf gs gc b fl vs st cl) {n : Nat} (hn : n < cl.length) : wr.cell? ⟨gc, n, none⟩ = some (.int .i64 (cl.getD n 0)) ∧ wr.frozen? ⟨gc, n, none⟩ = false := by
  refine ⟨?_, by simp [World.frozen?, h.cel]⟩
  rw [cell_of_row wr gc n _ _ _ h.cel, cellO_at hn]
/-- Where the machine stands, plainly. -/
structure RS (b : List UInt8) (ins : List Ins) (fl : List Int) (cells : Nat) (C : Nat → Option Kn) (A : Bool) (Ru St : Nat) (i : Nat) (k : Kn) (st cl : List Int) (f q : Nat) : Prop where
  hi : i < ins.length
  hC : C i = some k
  fit : Fits k cells st cl
  dep : st.length ≤ 24
  le : q ≤ i
  run : runK ins fl f i st cl q = some (A, Ru, St)
theorem RS.stop {b : List UInt8} {ins : List Ins} {fl : List Int} {cells : Nat} {C : Nat → Option Kn} {A : Bool} {Ru St i : Nat} {k : Kn} {st cl : List Int} {f q : Nat} (h : RS b ins fl cells C A Ru St i k st cl f q) (h17 : (ins.getD i noIns).op = 17 ∨ (ins.getD i noIns).op = 18) : A = decide ((ins.getD i noIns).op = 17) ∧ Ru = (ins.getD i noIns).n.toNat ∧ St = q + 1 := by
  have hr := h.run
  cases f with
  | zero => simp [runK] at hr
  | succ f =>
    rw [runK, if_pos h.hi, if_pos h17] at hr
    simp only [Option.some.injEq, Prod.mk.injEq] at hr
    exact ⟨hr.1.symm, hr.2.1.symm, hr.2.2.symm⟩
theorem RS.step {b : List UInt8} {ins : List Ins} {fl : List Int} {cells depth : Nat} {C : Nat → Option Kn} {A : Bool} {Ru St i : Nat} {k : Kn} {st cl : List Int} {f q : Nat} (h : RS b ins fl cells C A Ru St i k st cl f q) (hok : CodeOK b ins) (hcl : byteAt b 2 = cells) (hd24 : depth ≤ 24) (hF : FieldsT fl) (hG : Good ins depth 0 C) (h17 : ¬ ((ins.getD i noIns).op = 17 ∨ (ins.getD i noIns).op = 18)) :
    ∃ k' st' cl' j t kq f', doesK (ins.getD i noIns).op (ins.getD i noIns).n.toNat k = some k' ∧ stepK fl (ins.getD i noIns) st cl = some (st', cl', j) ∧ (ins.getD t noIns).pl = (if j then (ins.getD i noIns).pl + 3 + (ins.getD i noIns).n.toNat else (ins.getD i noIns).pl + sizeOp (ins.getD i noIns).op) ∧ i < t ∧ RS b ins fl cells C A Ru St t kq st' cl' f' (q + 1) := by
  have hx := num_ok (hok.each _ (getD_ins h.hi))
  rw [hcl] at hx
  have hrun := h.run
  obtain ⟨f', rfl⟩ : ∃ f', f = f' + 1 := by
    cases f with
    | zero => simp [runK] at hrun
    | succ f' => exact ⟨f', rfl⟩
  rw [runK, if_pos h.hi, if_neg h17] at hrun
  obtain ⟨k', hdk, hdp, hlead⟩ := hG i (Nat.zero_le _) h.hi k h.hC
  obtain ⟨st', cl', j, hs, hft', hj, h16⟩ := step_fits hx hF h.fit hdk h17
  rw [hs] at hrun
  have hnx2 := next_in (ins := ins) (i := i) hj h16 h17
  obtain ⟨t, e, h1, h2, h3⟩ := hlead _ hnx2
  obtain ⟨kq, e2, e3, e4⟩ := h3 k' rfl
  have hftq : Fits kq cells st' cl' := ⟨by rw [e3]; exact hft'.typ, hft'.cel.less e4, hft'.len⟩
  have hl' : st'.length ≤ 24 := by rw [hft'.typ.len]; omega
  refine ⟨k', st', cl', j, t, kq, f', hdk, hs, ?_, h1, ⟨h2, e2, hftq, hl', by have := h.le; omega, ?_⟩⟩
  · cases j with
    | true =>
      have e : jumpTo ins (ins.getD i noIns) = some t := e
      have := jump_fwd hok h.hi e
      rw [if_pos rfl]; exact this.2.2
    | false =>
      have e : (if i + 1 < ins.length then some (i + 1) else none) = some t := e
      split at e
      · rename_i g
        simp at e
        subst e
        rw [if_neg (by decide)]
        exact (behind_next hok.order i h.hi).1 g
      · cases e
  · cases j with
    | true =>
      have e : jumpTo ins (ins.getD i noIns) = some t := e
      simp only [] at hrun
      rw [e] at hrun
      exact hrun
    | false =>
      have e : (if i + 1 < ins.length then some (i + 1) else none) = some t := e
      simp only [] at hrun
      split at e
      · simp at e; rw [← e]; exact hrun
      · cases e
end Go.Proofs.YtfkdailfcmnjlaaDoor

namespace Go.Proofs.YtfkdailfcmnjlaaDoor
open Go Go.RowKit
set_option maxRecDepth 100000
attribute [local go_sem ↓] Go.wp_at_zero Go.wp_at_succ

theorem info_ptr : (Tryd.prog.info? 114).map (fun i => (i.zero, i.size, i.bytes)) = some (some (.pointer none), 1, 8) := by kernel_rfl
/-- Between the rounds. -/
def SndI (w wr : World) (cells : Nat) (ins : List Ins) (depth i : Nat) (r : Bool) : Prop :=
  ∃ O come, ComeAt wr w.heap.size w.heap.size i O come ∧ come.length = ins.length ∧ Below w.heap.size w wr ∧ r = flowK ins depth (ins.drop i) i come ∧ ComeTy cells come
theorem snd_start {w : World} {cells n : Nat} (h0 : 0 < n) :
    ComeAt ((w.alloc (.cells ((madeCells #[.pointer none] n).setIfInBounds 0 (.pointer (some ⟨w.heap.size + 1, 0, none⟩))) 114)).alloc (.cells #[.slice none 0 0, .slice none 0 0] 119)) w.heap.size w.heap.size 0 (fun b => if b = w.heap.size + 1 then 1 else 0) (come0 cells n) := by
  have e1 : (w.alloc (.cells ((madeCells #[.pointer none] n).setIfInBounds 0 (.pointer (some ⟨w.heap.size + 1, 0, none⟩))) 114)).heap.size = w.heap.size + 1 := World.size_alloc _ _
  have hb := (Below.heap_alloc (w.alloc (.cells ((madeCells #[.pointer none] n).setIfInBounds 0 (.pointer (some ⟨w.heap.size + 1, 0, none⟩))) 114)) (.cells #[.slice none 0 0, .slice none 0 0] 119) w.heap.size (by omega)).trans (heap_alloc_new w _)
  have hs := heap_alloc_new (w.alloc (.cells ((madeCells #[.pointer none] n).setIfInBounds 0 (.pointer (some ⟨w.heap.size + 1, 0, none⟩))) 114)) (.cells #[.slice none 0 0, .slice none 0 0] 119)
  rw [e1] at hs
  have hlen : (come0 cells n).length = n := come0_len cells n h0
  have hsz : (madeCells #[Value.pointer none] n).size = n := size_madeCells _ _
  have hcell : ∀ j, j < n → ((w.alloc (.cells ((madeCells #[.pointer none] n).setIfInBounds 0 (.pointer (some ⟨w.heap.size + 1, 0, none⟩))) 114)).alloc (.cells #[.slice none 0 0, .slice none 0 0] 119)).cell? ⟨w.heap.size, j, none⟩ = if j = 0 then some (.pointer (some ⟨w.heap.size + 1, 0, none⟩)) else some (.pointer none) := fun j hj => by
    rw [cell_of_row _ _ j _ _ _ hb]
    by_cases e : j = 0
    · subst e
      rw [if_pos rfl, Array.getElem?_setIfInBounds, if_pos rfl, if_pos (by omega)]
    · rw [if_neg e, Array.getElem?_setIfInBounds_ne (by omega)]
      unfold madeCells
      simp [hj, Nat.mod_one]
  refine ⟨⟨_, hb, by rw [Array.size_setIfInBounds, hsz, hlen]⟩, fun j _ hj hn => ?_, fun j _ hj k hk => ?_, by simp, fun b hb => ?_, Nat.le_refl _, by rw [World.size_alloc, e1]; omega⟩
  · rw [hlen] at hj
    rw [hcell j hj, if_neg]
    intro e
    subst e
    simp [come0] at hn
  · rw [hlen] at hj
    cases j with
    | zero =>
      simp [come0] at hk
      subst hk
      refine ⟨w.heap.size + 1, .slice none 0 0, .slice none 0 0, [], [], by rw [hcell 0 hj]; rfl, ⟨hs, IR.nil _ _, IR.nil _ _, fun b hb => by simp [Value.ownBlock] at hb⟩, ⟨rfl, by simp, fun i => ?_⟩, fun b hb => ?_⟩
      · rw [List.getD_eq_getElem?_getD, List.getD_eq_getElem?_getD, List.getElem?_replicate]
        split <;> rfl
      · rcases hb with rfl | hb | hb
        · exact if_pos rfl
        · simp [Value.ownBlock] at hb
        · simp [Value.ownBlock] at hb
    | succ j =>
      unfold come0 at hk
      rw [List.getD_cons_succ, List.getD_eq_getElem?_getD, List.getElem?_replicate] at hk
      split at hk <;> cases hk
  · by_cases e : b = w.heap.size + 1
    · omega
    · exact absurd (if_neg e) hb
set_option maxHeartbeats 8000000 in
theorem sound_any {b : List UInt8} {ins : List Ins} {cp gi cap depth : Nat} {w : World} (hE : Ef w) (h : CodeOK b ins) (hm : CodeAt w cp gi cap (byteAt b 2) depth ins) (h0 : 0 < ins.length) (hn : ins.length ≤ 4000) (hd : depth ≤ 24) :
    Calls Tryd.prog 24 #[.pointer (some ⟨cp, 0, none⟩)] w fun e w' => e = .returned (.bool (flowK ins depth ins 0 (come0 (byteAt b 2) ins.length))) ∧ Below w.heap.size w w' := by
  have hmk := run_make_row' (P := Tryd.prog) 113 114 (.pointer none) 8 Tryd.underlying113 info_ptr rfl .i64 .i64 ins.length (by omega) (by omega)
  have p0 : w.cell? ⟨cp, 0, none⟩ = some (.int .i64 (byteAt b 2 : Nat)) := by rw [cell_of_row w cp 0 _ _ _ hm.blk]; rfl
  have p1 : w.cell? ⟨cp, 1, none⟩ = some (.slice (some ⟨gi, 0, none⟩) ins.length cap) := by rw [cell_of_row w cp 1 _ _ _ hm.blk]; rfl
  have p2 : w.cell? ⟨cp, 2, none⟩ = some (.int .i64 depth) := by rw [cell_of_row w cp 2 _ _ _ hm.blk]; rfl
  have hlt := lt_of_get hm.blk
  have p1' : ∀ o o', ((w.alloc o).alloc o').cell? ⟨cp, 1, none⟩ = some (.slice (some ⟨gi, 0, none⟩) ins.length cap) := fun o o' => by
    have hb : Below w.heap.size w ((w.alloc o).alloc o') := ((Below.refl _ _).alloc (Nat.le_refl _) _).alloc (by simp) _
    rw [hb.cell (p := ⟨cp, 1, none⟩) hlt]; exact p1
  have hmc : (madeCells #[.pointer none] ins.length)[0]? = some (.pointer none) := by unfold madeCells; simp [h0]
  have HM : Hid _ := hm
  have H : Hid _ := h
  have HEf : Hid _ := hE
  clear hm h hE
  generalize hR : flowK ins depth ins 0 (come0 (byteAt b 2) ins.length) = R
  have HI0 : Hid (SndI w ((w.alloc (.cells ((madeCells #[.pointer none] ins.length).setIfInBounds 0 (.pointer (some ⟨w.heap.size + 1, 0, none⟩))) 114)).alloc (.cells #[.slice none 0 0, .slice none 0 0] 119)) (byteAt b 2) ins depth 0 R) :=
    ⟨_, _, snd_start h0, come0_len _ _ h0, ((Below.refl _ _).alloc (Nat.le_refl _) _).alloc (by simp) _, hR.symm, come0_ty _ _⟩
  clear hR
  have HN : Hid (ins.length = ins.length) := rfl
  generalize hlen : ins.length = n at h0 hn hmk p1 p1' hmc HI0
  have HL : Hid _ := hlen
  clear hlen
  go_enter Tryd.func24, Tryd.ntmps24
  go_wp2_with fail
  generalize ((w.alloc (.cells ((madeCells #[.pointer none] n).setIfInBounds 0 (.pointer (some ⟨w.heap.size + 1, 0, none⟩))) 114)).alloc (.cells #[.slice none 0 0, .slice none 0 0] 119)) = W0 at *
  go_loopw [24] (fun iv wr => ∃ i : Nat, i ≤ n ∧ iv = .int .i64 i ∧ Hid (SndI w wr (byteAt b 2) ins depth i R)) (fun iv _ => n - (intOf iv).toNat)
  case atStart => exact ⟨0, Nat.zero_le _, rfl, HI0.out⟩
  case round =>
    obtain ⟨i, hi, rfl, HI⟩ := hrel
    obtain ⟨O, come, hca, hcl, hbw, hr, hty⟩ := HI.out
    by_cases hlt : i < n
    · have hmr := HM.out.below hbw
      have hil : i < ins.length := by rw [HL.out]; exact hlt
      have q0 := hmr.op i hil
      have q1 := hmr.num i hil
      have q2 := hmr.tos i hil
      have q3 := hmr.pls i hil
      have hib : (0 : Int) ≤ (i : Int) ∧ (i : Int) < (n : Int) := by omega
      have hdrop : ins.drop i = ins.getD i noIns :: ins.drop (i + 1) := by
        rw [List.drop_eq_getElem_cons hil, List.getD_eq_getElem?_getD, List.getElem?_eq_getElem hil]; rfl
      rw [hdrop] at hr
      have hXO := H.out.1 _ (getD_ins hil)
      have HLG : Hid _ := leads_go H.out hil
      generalize ins.getD i noIns = x at *
      cases hk : come.getD i none with
      | none =>
        have hcell := hca.non i (Nat.le_refl _) (by omega) hk
        have HNX : Hid (∀ o, SndI w (wr.alloc o) (byteAt b 2) ins depth (i + 1) R) := fun o => by
          have hb1 : Below wr.heap.size wr (wr.alloc o) := (Below.refl _ _).alloc (Nat.le_refl _) _
          refine ⟨O, come, (hca.from (by omega)).below' hb1, hcl, hbw.trans (hb1.mono hbw.size), ?_, hty⟩
          rw [hr, flowK, hk]
        have hcell2 : ∀ o, (wr.alloc o).cell? ⟨w.heap.size, i, none⟩ = some (.pointer none) := fun o => by
          rw [World.cell?_of_block (w := wr) (a := ⟨w.heap.size, i, none⟩) (Below.heap_alloc wr o w.heap.size hca.lt)]; exact hcell
        clear hca hcl hbw hr hty hmr hdrop hXO HLG HI hk
        go_wp2
        go_roundw
        case rel => exact ⟨i + 1, by omega, by go_num, HNX.out _⟩
        case measure => simp [intOf]; omega
      | some k =>
        obtain ⟨p, vs, vc, st, c, hcell, hset, hkn, hO⟩ := hca.som i (Nat.le_refl _) (by omega) k hk
        have hcell2 : ∀ o, (wr.alloc o).cell? ⟨w.heap.size, i, none⟩ = some (.pointer (some ⟨p, 0, none⟩)) := fun o => by
          rw [World.cell?_of_block (w := wr) (a := ⟨w.heap.size, i, none⟩) (Below.heap_alloc wr o w.heap.size hca.lt)]; exact hcell
        obtain ⟨t1, t2, t3, t4⟩ := hty i k hk
        have hno := num_ok hXO
        have hcells := byte_lt b 2
        have hn4 : x.op = 4 ∨ x.op = 5 ∨ x.op = 6 → 0 ≤ x.n ∧ x.n ≤ 255 := fun e => by
          obtain ⟨a1, _, a2⟩ := hno.two (by unfold sizeOp; rw [if_neg (by omega), if_pos (by omega)])
          exact ⟨a1, a2⟩
        have hn5 : x.op = 5 → x.n.toNat < k.cl.length := fun e => by
          obtain ⟨a1, a2, _⟩ := hno.two (by unfold sizeOp; rw [if_neg (by omega), if_pos (by omega)])
          unfold boundOp at a2
          rw [if_neg (by omega), if_neg (by omega), if_neg (by omega), if_pos (by omega)] at a2
          omega
        have hch := change_does hkn t1 x.op x.n.toNat hno.op hn5
        obtain ⟨w1, hw1⟩ : ∃ w1, wr.alloc (.cells #[.int .i64 (x.op : Nat), .int .i64 x.n, .int .i64 (toOf ins x), .int .i64 (x.pl : Nat)] 105) = w1 := ⟨_, rfl⟩
        have hb1 : Below wr.heap.size wr w1 := by rw [← hw1]; exact (Below.refl _ _).alloc (Nat.le_refl _) _
        have hbk1 : w1.heap[wr.heap.size]? = some (insO x.op x.n (toOf ins x) (x.pl : Nat)) := by rw [← hw1]; exact heap_alloc_new wr _
        have hca1 := hca.below' hb1
        have hset1 := hset.only (Only.of_below (F := fun _ => False) hb1) (fun _ _ h => h)
        have hbw1 : Below w.heap.size w w1 := hbw.trans (hb1.mono hbw.size)
        have hEp : Ef w := HEf.out
        have hE1 : Ef w1 := hEp.below hEp.pos hbw1
        have hlst : st.length ≤ 24 := by rw [hkn.st]; simpa [stI] using t4
        have hlc : c.length ≤ 256 := by have := hkn.len; omega
        have W1 := change_any (w := w1.drew) x.op x.n (toOf ins x) (x.pl : Nat) hE1 hset1.drew (by omega) hlc (by have := hno.op; omega) hn4
        have hS0 : w1.cell? ⟨cp, 2, none⟩ = some (.int .i64 depth) ∧ w1.cell? ⟨wr.heap.size, 0, none⟩ = some (.int .i64 (x.op : Nat)) ∧ w1.cell? ⟨wr.heap.size, 1, none⟩ = some (.int .i64 x.n) ∧ w1.cell? ⟨wr.heap.size, 2, none⟩ = some (.int .i64 (toOf ins x)) ∧ w1.cell? ⟨wr.heap.size, 3, none⟩ = some (.int .i64 (x.pl : Nat)) := by
          have hcc := fun j => cell_of_row w1 _ j _ _ _ hbk1
          exact ⟨by rw [hbw1.cell (p := ⟨cp, 2, none⟩) (lt_of_get HM.out.blk)]; exact p2, hcc 0, hcc 1, hcc 2, hcc 3⟩
        have hHW : Hid _ := hw1
        have hcw1 : w1.cell? ⟨w.heap.size, i, none⟩ = some (.pointer (some ⟨p, 0, none⟩)) := by rw [← hw1]; exact hcell2 _
        unfold insV at W1
        rw [flowK, hk] at hr
        simp only [] at hr
        cases hdk : doesK x.op x.n.toNat k with
        | none =>
          rw [hdk] at hch hr
          have hch' : changeR x.op x.n.toNat st c = none := hch
          rw [hch'] at W1
          have HRf : Hid (R = false) := hr
          have HBl : Hid (∀ w2, Only (Foot p vs vc) w1 w2 → Below w.heap.size w w2) := fun w2 h2 => hbw1.trans (h2.below hbw1.size (fun b _ hb => hca1.low b (by rw [hO b hb]; omega)))
          have KP : Hid (∀ w2, Only (Foot p vs vc) w1 w2 → (w2.cell? ⟨cp, 2, none⟩ = some (.int .i64 depth) ∧ w2.cell? ⟨wr.heap.size, 0, none⟩ = some (.int .i64 (x.op : Nat)) ∧ w2.cell? ⟨wr.heap.size, 1, none⟩ = some (.int .i64 x.n) ∧ w2.cell? ⟨wr.heap.size, 2, none⟩ = some (.int .i64 (toOf ins x)) ∧ w2.cell? ⟨wr.heap.size, 3, none⟩ = some (.int .i64 (x.pl : Nat)))) := fun w2 h2 => by
            have hbk2 : w2.heap[wr.heap.size]? = _ := (h2.block _ (lt_of_get hbk1) (fun hf => by have := hset.lt hf; omega)).trans hbk1
            have hcc := fun j => cell_of_row w2 _ j _ _ _ hbk2
            exact ⟨by rw [(HBl.out w2 h2).cell (p := ⟨cp, 2, none⟩) (lt_of_get HM.out.blk)]; exact p2, hcc 0, hcc 1, hcc 2, hcc 3⟩
          clear hca hcl hbw hr hty hmr hdrop hXO HLG HI hk hset hkn hO t1 t2 t3 t4 hno hn4 hn5 hch hch' hb1 hbk1 hca1 hset1 hbw1 hEp hE1 hdk
          clear hw1
          go_wp2_with fail
          rw [hHW.out]
          refine wp_region_held_drew (S := fun w2 => w2.cell? ⟨cp, 2, none⟩ = some (.int .i64 depth) ∧ w2.cell? ⟨wr.heap.size, 0, none⟩ = some (.int .i64 (x.op : Nat)) ∧ w2.cell? ⟨wr.heap.size, 1, none⟩ = some (.int .i64 x.n) ∧ w2.cell? ⟨wr.heap.size, 2, none⟩ = some (.int .i64 (toOf ins x)) ∧ w2.cell? ⟨wr.heap.size, 3, none⟩ = some (.int .i64 (x.pl : Nat))) (by kernel_rfl) hS0 (fun hHeld => ?_)
          refine wpAnyH_take (i := 0) (v := .agg #[.int .i64 (x.op : Nat), .int .i64 x.n, .int .i64 (toOf ins x), .int .i64 (x.pl : Nat)]) rfl (by kernel_rfl) (by kernel_rfl) (by kernel_rfl) (fun _ _ _ h => h) (Or.inl ⟨by rfl, fun w hSw => ?_⟩) hHeld ?_
          · dsimp only at hSw; obtain ⟨s0, s1, s2, s3, s4⟩ := hSw; go_simp
          simp only [List.getElem_toArray, List.getElem_cons_zero, List.getElem_cons_succ, Act.put, List.setIfInBounds_toArray, List.set_cons_zero, List.set_cons_succ]
          refine wpAnyH_take (i := 1) (v := .pointer (some ⟨p, 0, none⟩)) rfl (by kernel_rfl) (by kernel_rfl) (by kernel_rfl) (fun _ _ _ h => h) (Or.inl ⟨by rfl, fun w hSw => ?_⟩) hHeld ?_
          · dsimp only at hSw; obtain ⟨s0, s1, s2, s3, s4⟩ := hSw; go_simp
          simp only [List.getElem_toArray, List.getElem_cons_zero, List.getElem_cons_succ, Act.put, List.setIfInBounds_toArray, List.set_cons_zero, List.set_cons_succ]
          refine wpAnyH_ready (rs := [2]) (by kernel_rfl) (by simp) ?_
          refine AllReadyH.cons rfl (fun K hK => ?_) AllReadyH.nil
          go_simp
          refine W1.mono ?_
          rintro e w2 ⟨rfl, ho2⟩
          dsimp only
          clear hHeld
          refine hK.out _ _ (KP.out _ ho2.of_drew) (fun hHeld => ?_)
          have HU : Hid _ := HBl.out w2 ho2.of_drew
          clear ho2 KP hK
          refine wpAnyH_take (i := 3) (v := .bool true) rfl (by kernel_rfl) (by kernel_rfl) (by kernel_rfl) (fun _ _ _ h => h) (Or.inl ⟨by rfl, fun w hSw => ?_⟩) hHeld ?_
          · dsimp only at hSw; obtain ⟨s0, s1, s2, s3, s4⟩ := hSw; go_simp
          simp only [List.getElem_toArray, List.getElem_cons_zero, List.getElem_cons_succ, Act.put, List.setIfInBounds_toArray, List.set_cons_zero, List.set_cons_succ]
          refine wpAnyH_take (i := 4) (v := .bool true) rfl (by kernel_rfl) (by kernel_rfl) (by kernel_rfl) (fun _ _ _ h => h) (Or.inl ⟨by rfl, fun w hSw => ?_⟩) hHeld ?_
          · dsimp only at hSw; obtain ⟨s0, s1, s2, s3, s4⟩ := hSw; go_simp
          simp only [List.getElem_toArray, List.getElem_cons_zero, List.getElem_cons_succ, Act.put, List.setIfInBounds_toArray, List.set_cons_zero, List.set_cons_succ]
          refine wpAnyH_take (i := 5) (v := undef) rfl (by kernel_rfl) (by kernel_rfl) (by kernel_rfl) (fun _ _ _ h => h) (Or.inr ⟨by rfl, rfl⟩) hHeld ?_
          simp only [List.getElem_toArray, List.getElem_cons_zero, List.getElem_cons_succ, Act.put, List.setIfInBounds_toArray, List.set_cons_zero, List.set_cons_succ]
          refine wpAnyH_take (i := 6) (v := undef) rfl (by kernel_rfl) (by kernel_rfl) (by kernel_rfl) (fun _ _ _ h => h) (Or.inr ⟨by rfl, rfl⟩) hHeld ?_
          simp only [List.getElem_toArray, List.getElem_cons_zero, List.getElem_cons_succ, Act.put, List.setIfInBounds_toArray, List.set_cons_zero, List.set_cons_succ]
          refine wpAnyH_take (i := 7) (v := undef) rfl (by kernel_rfl) (by kernel_rfl) (by kernel_rfl) (fun _ _ _ h => h) (Or.inr ⟨by rfl, rfl⟩) hHeld ?_
          simp only [List.getElem_toArray, List.getElem_cons_zero, List.getElem_cons_succ, Act.put, List.setIfInBounds_toArray, List.set_cons_zero, List.set_cons_succ]
          refine wpAnyH_take (i := 8) (v := undef) rfl (by kernel_rfl) (by kernel_rfl) (by kernel_rfl) (fun _ _ _ h => h) (Or.inr ⟨by rfl, rfl⟩) hHeld ?_
          simp only [List.getElem_toArray, List.getElem_cons_zero, List.getElem_cons_succ, Act.put, List.setIfInBounds_toArray, List.set_cons_zero, List.set_cons_succ]
          refine wpAnyH_take (i := 9) (v := undef) rfl (by kernel_rfl) (by kernel_rfl) (by kernel_rfl) (fun _ _ _ h => h) (Or.inr ⟨by rfl, rfl⟩) hHeld ?_
          simp only [List.getElem_toArray, List.getElem_cons_zero, List.getElem_cons_succ, Act.put, List.setIfInBounds_toArray, List.set_cons_zero, List.set_cons_succ]
          refine wpAnyH_take (i := 10) (v := undef) rfl (by kernel_rfl) (by kernel_rfl) (by kernel_rfl) (fun _ _ _ h => h) (Or.inr ⟨by rfl, rfl⟩) hHeld ?_
          simp only [List.getElem_toArray, List.getElem_cons_zero, List.getElem_cons_succ, Act.put, List.setIfInBounds_toArray, List.set_cons_zero, List.set_cons_succ]
          refine wpAnyH_take (i := 11) (v := undef) rfl (by kernel_rfl) (by kernel_rfl) (by kernel_rfl) (fun _ _ _ h => h) (Or.inr ⟨by rfl, rfl⟩) hHeld ?_
          simp only [List.getElem_toArray, List.getElem_cons_zero, List.getElem_cons_succ, Act.put, List.setIfInBounds_toArray, List.set_cons_zero, List.set_cons_succ]
          refine wpAnyH_take (i := 12) (v := undef) rfl (by kernel_rfl) (by kernel_rfl) (by kernel_rfl) (fun _ _ _ h => h) (Or.inr ⟨by rfl, rfl⟩) hHeld ?_
          simp only [List.getElem_toArray, List.getElem_cons_zero, List.getElem_cons_succ, Act.put, List.setIfInBounds_toArray, List.set_cons_zero, List.set_cons_succ]
          refine wpAnyH_take (i := 13) (v := undef) rfl (by kernel_rfl) (by kernel_rfl) (by kernel_rfl) (fun _ _ _ h => h) (Or.inr ⟨by rfl, rfl⟩) hHeld ?_
          simp only [List.getElem_toArray, List.getElem_cons_zero, List.getElem_cons_succ, Act.put, List.setIfInBounds_toArray, List.set_cons_zero, List.set_cons_succ]
          refine wpAnyH_take (i := 14) (v := .bool true) rfl (by kernel_rfl) (by kernel_rfl) (by kernel_rfl) (fun _ _ _ h => h) (Or.inl ⟨by rfl, fun w hSw => ?_⟩) hHeld ?_
          · dsimp only at hSw; obtain ⟨s0, s1, s2, s3, s4⟩ := hSw; go_simp
          simp only [List.getElem_toArray, List.getElem_cons_zero, List.getElem_cons_succ, Act.put, List.setIfInBounds_toArray, List.set_cons_zero, List.set_cons_succ]
          refine wpAnyH_done (by kernel_rfl) ?_ _
          go_wp2
          go_ret
          exact ⟨by rw [HRf.out]; rfl, HU.out⟩
        | some k' =>
          rw [hdk] at hch hr
          obtain ⟨st', c', hch', hkn'⟩ := hch
          rw [hch'] at W1
          simp only [] at hr
          obtain ⟨y1, y2, y3⟩ := does_tys hno.op t1 t2 hdk
          have HCH : Hid (∀ w2, SetOut w1 w2 p vs vc st' c' → ∃ O' vs' vc', ComeAt w2 w.heap.size w.heap.size (i + 1) O' come ∧ SetAt w2 p vs' vc' st' c' ∧ (∀ b, Foot p vs' vc' b → O' b = i + 1) ∧ (∀ b, w2.heap.size ≤ b → O' b = 0) ∧ Below w.heap.size w w2 ∧ w2.heap[wr.heap.size]? = some (insO x.op x.n (toOf ins x) (x.pl : Nat)) ∧ w2.cell? ⟨cp, 2, none⟩ = some (.int .i64 depth)) := fun w2 h2 => by
            obtain ⟨O', vs', vc', z1, z2, z3, z4, z5⟩ := hca1.change hO h2
            have hbl := hbw1.trans z5
            exact ⟨O', vs', vc', z1, z2, z3, z4, hbl, (h2.only.block _ (lt_of_get hbk1) (fun hf => by have := hset.lt hf; omega)).trans hbk1, by rw [hbl.cell (p := ⟨cp, 2, none⟩) (lt_of_get HM.out.blk)]; exact p2⟩
          have hkl : st'.length = k'.st.length := by rw [hkn'.st]; simp [stI]
          have KP : Hid (∀ w2, SetOut w1 w2 p vs vc st' c' → (w2.cell? ⟨cp, 2, none⟩ = some (.int .i64 depth) ∧ w2.cell? ⟨wr.heap.size, 0, none⟩ = some (.int .i64 (x.op : Nat)) ∧ w2.cell? ⟨wr.heap.size, 1, none⟩ = some (.int .i64 x.n) ∧ w2.cell? ⟨wr.heap.size, 2, none⟩ = some (.int .i64 (toOf ins x)) ∧ w2.cell? ⟨wr.heap.size, 3, none⟩ = some (.int .i64 (x.pl : Nat)))) := fun w2 h2 => by
            obtain ⟨O', vs', vc', z1, z2, z3, z4, z5, z6, z7⟩ := HCH.out w2 h2
            have hcc := fun j => cell_of_row w2 _ j _ _ _ z6
            exact ⟨z7, hcc 0, hcc 1, hcc 2, hcc 3⟩
          have W2 : ∀ W, SetOut w1 W p vs vc st' c' → Calls Tryd.prog 42 #[.pointer (some ⟨p, 0, none⟩)] W fun e w' => e = .returned (.int .i64 (k'.st.length : Nat)) ∧ w' = W := fun W h => by
            obtain ⟨vs', vc', z2, _, _⟩ := h
            rw [← hkl]
            exact theight_any (v := vs') z2.blk rfl z2.st
          clear hca hbw hmr hdrop hXO HI hk hset hkn hO t1 t2 t4 hno hn4 hn5 hch' hb1 hbk1 hca1 hset1 hbw1 hEp hE1 hdk
          clear hw1
          have HR : Hid _ := hr
          clear hr
          by_cases hdep : depth < k'.st.length
          · have hd1 : (depth : Int) < (k'.st.length : Int) := by omega
            have HRf : Hid (R = false) := HR.out.trans (if_pos hdep)
            go_wp2_with fail
            rw [hHW.out]
            go_region_held3 (fun w2 => w2.cell? ⟨cp, 2, none⟩ = some (.int .i64 depth) ∧ w2.cell? ⟨wr.heap.size, 0, none⟩ = some (.int .i64 (x.op : Nat)) ∧ w2.cell? ⟨wr.heap.size, 1, none⟩ = some (.int .i64 x.n) ∧ w2.cell? ⟨wr.heap.size, 2, none⟩ = some (.int .i64 (toOf ins x)) ∧ w2.cell? ⟨wr.heap.size, 3, none⟩ = some (.int .i64 (x.pl : Nat))) (first | with_reducible exact KP.out _ (by assumption) | with_reducible assumption | go_keep)
              (first
                | (go_at_call 41; refine W1.mono ?_; rintro e w2 ⟨rfl, ho2⟩; replace ho2 := ho2.of_drew)
                | (go_at_call 42; refine (W2 _ (by assumption)).mono ?_; rintro e w3 ⟨rfl, rfl⟩))
            rename_i hHeld
            obtain ⟨O', vs', vc', z1, z2, z3, z4, z5, z6, z7⟩ := HCH.out w3 ho2
            have HU : Hid _ := z5
            clear hHeld ho2 KP HCH W1 W2 z1 z2 z3 z4 z5 z6 z7
            go_wp2
            go_ret
            exact ⟨by rw [HRf.out]; rfl, HU.out⟩
          · have hd1 : ¬ ((depth : Int) < (k'.st.length : Int)) := by omega
            have HR2 : Hid _ := HR.out.trans (if_neg hdep)
            have HKT : Hid (Tys1 k'.st ∧ Tys k'.cl ∧ k'.cl.length = byteAt b 2 ∧ k'.st.length ≤ 24) := ⟨y1, y2, by omega, by omega⟩
            go_wp2_with fail
            rw [hHW.out]
            go_region_held3 (fun w2 => w2.cell? ⟨cp, 2, none⟩ = some (.int .i64 depth) ∧ w2.cell? ⟨wr.heap.size, 0, none⟩ = some (.int .i64 (x.op : Nat)) ∧ w2.cell? ⟨wr.heap.size, 1, none⟩ = some (.int .i64 x.n) ∧ w2.cell? ⟨wr.heap.size, 2, none⟩ = some (.int .i64 (toOf ins x)) ∧ w2.cell? ⟨wr.heap.size, 3, none⟩ = some (.int .i64 (x.pl : Nat))) (first | with_reducible exact KP.out _ (by assumption) | with_reducible assumption | go_keep)
              (first
                | (go_at_call 41; refine W1.mono ?_; rintro e w2 ⟨rfl, ho2⟩; replace ho2 := ho2.of_drew)
                | (go_at_call 42; refine (W2 _ (by assumption)).mono ?_; rintro e w3 ⟨rfl, rfl⟩))
            rename_i hHeld
            obtain ⟨O', vs', vc', z1, z2, z3, z4, z5, z6, z7⟩ := HCH.out w3 ho2
            obtain ⟨s0, s1, s2, s3, s4⟩ := hHeld
            have W3 := goesOn_any x.op x.n (toOf ins x) (x.pl : Nat) i (by omega) w3
            unfold insV at W3
            have HI3 : Hid (∀ w4 v, IR w4 3 v (goL x.op (toOf ins x) i) → Below w3.heap.size w3 w4 → (∀ b, v.ownBlock = some b → w3.heap.size ≤ b) → InI w w4 (byteAt b 2) ins i p vs' vc' st' c' v (goL x.op (toOf ins x) i) k' come (leadsK ins i x) 0 O' come) := fun w4 v h1 h2 h3 =>
              ⟨z1.below' h2, hcl, z2.only (Only.of_below (F := fun _ => False) h2) (fun _ _ h => h), z3, h1, fun b hb => z4 b (h3 b hb), z5.trans (h2.mono z5.size), rfl, hty⟩
            have HKN : Hid _ := hkn'
            clear ho2 KP HCH W1 W2 z1 z2 z3 z4 z5 z6 z7 hkn' hty hcl y1 y2 y3 hcell hcell2 hcw1 hS0 hdep hkl
            have hL2 : (goL x.op (toOf ins x) i).length ≤ 2 := by unfold goL; (repeat' split) <;> simp
            generalize goL x.op (toOf ins x) i = L at *
            go_wp2_with (
              go_at_call 43
              refine W3.mono ?_
              rintro e w4 ⟨⟨v, rfl, hrow, hfr⟩, hb4⟩
              obtain ⟨la, lcap, rfl⟩ := hrow.sl
              have HJ : Hid _ := HI3.out w4 _ hrow hb4 hfr
              clear hrow hfr hb4 W3 HI3 s0 s1 s2 s3 s4)
            go_loopw [54] (fun mv wi => ∃ m : Nat, m ≤ L.length ∧ mv = .int .i64 m ∧ Hid (∃ O2 come2, InI w wi (byteAt b 2) ins i p vs' vc' st' c' (.slice la L.length lcap) L k' come (leadsK ins i x) m O2 come2)) (fun mv _ => L.length - (intOf mv).toNat)
            case atStart => exact ⟨0, Nat.zero_le _, rfl, _, _, HJ.out⟩
            case round =>
              obtain ⟨m, hm, rfl, HK⟩ := hrel
              obtain ⟨O2, come2, hI⟩ := HK.out
              obtain ⟨g1, g2⟩ := HLG.out
              by_cases hml : m < L.length
              · obtain ⟨lb, lc2, e1, _⟩ := hI.row.form (by omega)
                simp at e1
                obtain ⟨rfl, rfl⟩ := e1
                have hrc := hI.row.cell hml
                have W4 := hI.come (cap := n) HKN.out HKT.out (by omega) (by omega) (by have := HL.out; omega) (g2 m (by omega))
                rw [HL.out] at W4
                have hmb : (0 : Int) ≤ (m : Int) ∧ (m : Int) < (L.length : Int) := by omega
                clear hI g1 g2 HK HJ
                generalize L.getD m 0 = y at *
                have HMB : Hid (m + 1 ≤ L.length) := by show _ ≤ _; omega
                go_wp2_with fail
                refine W4.mono ?_
                rintro e w5 ⟨r, rfl, hb5, ht5, hf5⟩
                clear W4 hrc
                cases r with
                | false =>
                  have HRf : Hid (R = false) := by
                    show R = false
                    rw [HR2.out, hf5 rfl]
                  have HB5 : Hid _ := hb5
                  clear hb5 ht5 hf5
                  go_wp2
                  go_ret
                  exact ⟨by rw [HRf.out]; rfl, HB5.out⟩
                | true =>
                  have HN5 : Hid _ := ht5 rfl
                  clear hb5 ht5 hf5
                  go_wp2
                  go_roundw
                  case rel => exact ⟨m + 1, HMB.out, by go_num, HN5.out⟩
                  case measure => have := HMB.out; simp [intOf]; omega
              · have hml2 : m = L.length := by omega
                have HS5 : Hid (SndI w wr (byteAt b 2) ins depth (i + 1) R) := by
                  refine ⟨O2, come2, hI.at_, hI.len, hI.bel, ?_, hI.typ⟩
                  have hbr := hI.bri
                  rw [List.drop_of_length_le (by omega)] at hbr
                  rw [HR2.out, hbr]; rfl
                clear hI g1 g2 HK HJ
                go_wp2
                exact ⟨⟨i + 1, by omega, by go_num, HS5.out⟩, by simp [intOf]; omega⟩
    · have HE : Hid (R = true) := by
        show _ = _
        rw [hr, List.drop_of_length_le (by rw [HL.out]; omega)]; rfl
      have HB : Hid _ := hbw
      clear hca hcl hbw hr hty HI
      go_wp2
      go_ret
      exact ⟨by rw [HE.out]; rfl, HB.out⟩
end Go.Proofs.YtfkdailfcmnjlaaDoor
