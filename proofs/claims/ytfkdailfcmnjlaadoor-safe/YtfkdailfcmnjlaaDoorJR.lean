/-
  No code goes wrong: both ways; and the table of effects, laid. The arguments of the laws, opened: structs, and lists of pairs. A scene, opened.
-/
import Derived.Test.YtfkdailfcmnjlaaDoorJA
import Derived.Test.YtfkdailfcmnjlaaDoorJB
import Derived.Test.YtfkdailfcmnjlaaDoorJC
import Derived.Test.YtfkdailfcmnjlaaDoorJD
import Derived.Test.YtfkdailfcmnjlaaDoorJE
import Derived.Test.YtfkdailfcmnjlaaDoorJF
import Derived.Test.YtfkdailfcmnjlaaDoorJG
import Derived.Test.YtfkdailfcmnjlaaDoorJH
import Derived.Test.YtfkdailfcmnjlaaDoorJI
import Derived.Test.YtfkdailfcmnjlaaDoorJJ
import Derived.Test.YtfkdailfcmnjlaaDoorJK
import Derived.Test.YtfkdailfcmnjlaaDoorJL
import Derived.Test.YtfkdailfcmnjlaaDoorJM
import Derived.Test.YtfkdailfcmnjlaaDoorJN
import Derived.Test.YtfkdailfcmnjlaaDoorJO
import Derived.Test.YtfkdailfcmnjlaaDoorJP
import Derived.Test.YtfkdailfcmnjlaaDoorJQ
import Derived.Test.YtfkdailfcmnjlaaDoorRows
import Derived.ProofKit
import Derived.LaidMore
import Derived.OpenShut
import Derived.Stop.Joined
import Derived.Deep.Strs
import Derived.Lib.SmallJoins
import Derived.Deep.SlicePairs
set_option linter.unusedVariables false
set_option linter.unusedSimpArgs false
namespace Go.Proofs.YtfkdailfcmnjlaaDoor
open Go Go.ChangeShapes Go.WideShapes Go.ChangeAt Go.RowKit
set_option maxRecDepth 100000

theorem safe_any (b : List UInt8) {c : Scn} (hc : ScnIn c) {w : World} (hE : Ef w) : Calls Tryd.prog 4 #[S b, .agg (scC c)] w fun e w' => e = .returned (.bool true) ∧ Below w.heap.size w w' := by
  cases hl : loadOf b with
  | none => exact safe_none b hl hc hE
  | some ins => exact safe_some b hl hc hE
theorem own : ownKnob Tryd.prog.godebug = none := by kernel_rfl
theorem gEff : Tryd.prog.globalNamed "gavel/code.effects" = some 0 := by kernel_rfl
theorem tEff : (Tryd.prog.globals[0]?).map (·.type) = some 141 := by kernel_rfl
theorem cEff : Tryd.prog.cellsOf 141 = 57 := by kernel_rfl
theorem cEff1 : Tryd.prog.cellsOf 140 = 3 := by kernel_rfl
theorem uEff : Tryd.prog.underlying 141 = some (.array 19 140) := by kernel_rfl
/-- The list of laid variables. -/
def laidE : List (String × DataW Unit) := [("gavel/code.effects", Rows.laid_gavel_code_effects)]
theorem eff_datum : Rows.laid_gavel_code_effects (H := Unit) = .agg ((List.range 19).map fun k => .agg [.lit (.int .i64 (effL.getD (k * 3) 0)), .lit (.int .i64 (effL.getD (k * 3 + 1) 0)), .lit (.int .i64 (effL.getD (k * 3 + 2) 0))]) := by kernel_rfl
theorem at_cut {l : List Value} {a r : Nat} {x : Value} (hr : r < 3) (h : ((((l.drop a).take 3).drop r).take 1) = [x]) : l[a + r]? = some x := by
  have := congrArg (fun l => l[0]?) h
  simp [List.getElem?_take, List.getElem?_drop, hr] at this
  exact this
theorem cInt : Tryd.prog.cellsOf 3 = 1 := by kernel_rfl
theorem cTy : Tryd.prog.cellsOf 121 = 1 := by kernel_rfl
theorem uTy : Tryd.prog.underlying 121 = some (.int .i64) := by kernel_rfl
theorem of_laidE {W : World} (h : laidMetH Tryd.prog laidE W) : Ef W := by
  have h' : laidMet Tryd.prog laidE W := by
    rw [MakeChecks.laidMetH_plain _ _ _ (by kernel_rfl)] at h
    exact h
  obtain ⟨ps, ⟨g0, t0, cs0, f0, p0, q0, hg0, ht0, hv0, hd0, _, _⟩, _, _⟩ := h'
  obtain rfl := Option.some.inj (gEff.symm.trans hg0)
  obtain rfl := Option.some.inj (tEff.symm.trans ht0)
  obtain ⟨xs, m, rfl, hx, hlen, hn, hel⟩ := DataW.trod_array uEff hd0
  rw [cEff] at hlen
  simp only [Prod.mk.injEq] at hx
  rw [eff_datum] at hx
  have hx1 := hx.1
  injection hx1 with hx2
  intro j hj
  have hk : j / 3 < 19 := by omega
  have he := hel (j / 3) hk
  rw [cEff1] at he
  have hkx : j / 3 < xs.length := by omega
  rw [List.getElem?_eq_getElem hkx] at he
  obtain ⟨y0, y1, y2, n, hy, hcl, i0, i1, i2⟩ := Go.Deep.trod_struct3 Tryd.underlying140 he
  simp only [cInt, cTy] at i0 i1 i2
  obtain ⟨n0, e0, d0, _⟩ := DataW.trod_int Tryd.underlying3 i0
  obtain ⟨n1, e1, d1, _⟩ := DataW.trod_int uTy i1
  obtain ⟨n2, e2, d2, _⟩ := DataW.trod_int uTy i2
  have h3 := congrArg (fun l => l[j / 3]?) hx2
  simp only [List.getElem?_map, List.getElem?_range hk, List.getElem?_eq_getElem hkx, Option.map_some, hy, d0, d1, d2, Option.some.injEq, DataW.agg.injEq, List.cons.injEq, DataW.lit.injEq, Lit.int.injEq, and_true, true_and] at h3
  obtain ⟨k0, k1, k2⟩ := h3
  have hcell := World.var?_cell hg0 hv0 j
  rw [hcell, ← Array.getElem?_toList]
  have hj3 : j = j / 3 * 3 ∨ j = j / 3 * 3 + 1 ∨ j = j / 3 * 3 + 2 := by omega
  rcases hj3 with hj3 | hj3 | hj3
  · rw [hj3]
    have := at_cut (r := 0) (by omega) e0
    rw [Nat.add_zero] at this
    rw [this, k0]
  · rw [hj3]
    have := at_cut (r := 1) (by omega) e1
    rw [this, k1]
  · rw [hj3]
    have := at_cut (r := 2) (by omega) e2
    rw [this, k2]
theorem door_metE (os : Os) (args : Array Value) : laidMetH Tryd.prog laidE ((World.doorLaid Tryd.prog 400 os).forCall (fun _ _ => 0) ⟨#[], args, []⟩).memory :=
  laidMetH_of_parts3 (fuel := 8) (laidMet_of_run' 8 (by kernel_rfl) (by kernel_rfl)) (by kernel_rfl) (by kernel_rfl)
end Go.Proofs.YtfkdailfcmnjlaaDoor

namespace Go.Proofs.YtfkdailfcmnjlaaDoor
open Go Go.ChangeShapes Go.WideShapes Go.ChangeAt Go.WideMaps Go.WideElems Go.RowKit Go.Deep
set_option maxRecDepth 100000

theorem in64_wf {n : Int} (h : (Lit.int .i64 n).wf = true) : In64 n := by
  have := h
  simp [Lit.wf, IntKind.min, IntKind.max, IntKind.signed, IntKind.bits] at this
  unfold In64
  exact this
variable {H : Type} {enc : TypeId × Value → H} {P : Program} {w : World} {base : Nat} {spare : Nat → Bool} {held : Bool}
theorem open_agg5 {r : Reach} {b0 : Nat} {t : TypeId} {f0 f1 f2 f3 f4 : Field} {v : Value} {d : DataW H} {p : List MemPlace} (hs : P.underlying t = some (.struct #[f0, f1, f2, f3, f4])) (hone : oneCellFields P #[f0, f1, f2, f3, f4] = true) (hC : P.cellsOf t = 5)
    (hv : Value.okWide P w r b0 t v) (h : DataW.Trod enc P w base spare held t v d p) :
    ∃ (v0 v1 v2 v3 v4 : Value) (y0 y1 y2 y3 y4 : DataW H × List MemPlace) (n : Nat), v = .agg #[v0, v1, v2, v3, v4] ∧ d = .agg [y0.1, y1.1, y2.1, y3.1, y4.1] ∧ p = y0.2 ++ (y1.2 ++ (y2.2 ++ (y3.2 ++ y4.2))) ∧
      DataW.trod enc P w base spare held n f0.type [v0] = some y0 ∧ DataW.trod enc P w base spare held n f1.type [v1] = some y1 ∧ DataW.trod enc P w base spare held n f2.type [v2] = some y2 ∧ DataW.trod enc P w base spare held n f3.type [v3] = some y3 ∧ DataW.trod enc P w base spare held n f4.type [v4] = some y4 := by
  obtain ⟨cs, rfl, hsz⟩ := okWide_struct hs hv
  obtain ⟨l⟩ := cs
  have hl : l.length = 5 := by simpa using hsz.trans hC
  obtain ⟨c0, c1, c2, c3, c4, rfl⟩ : ∃ c0 c1 c2 c3 c4, l = [c0, c1, c2, c3, c4] := by
    match l, hl with
    | [a, b, c, d, e], _ => exact ⟨a, b, c, d, e, rfl⟩
  obtain ⟨fuel, hf⟩ := h
  obtain ⟨xs, n, _, hx, _, hlen, hf⟩ := DataW.trod_struct hs hf
  obtain ⟨o0, k0⟩ := hone_of hone 0 f0 rfl
  obtain ⟨o1, k1⟩ := hone_of hone 1 f1 rfl
  obtain ⟨o2, k2⟩ := hone_of hone 2 f2 rfl
  obtain ⟨o3, k3⟩ := hone_of hone 3 f3 rfl
  obtain ⟨o4, k4⟩ := hone_of hone 4 f4 rfl
  match xs, hlen with
  | [y0, y1, y2, y3, y4], _ =>
    simp only [Prod.mk.injEq] at hx
    exact ⟨c0, c1, c2, c3, c4, y0, y1, y2, y3, y4, n, rfl, by simpa using hx.1, by simpa using hx.2, by simpa [Value.cells, o0, k0] using hf 0 f0 rfl, by simpa [Value.cells, o1, k1] using hf 1 f1 rfl, by simpa [Value.cells, o2, k2] using hf 2 f2 rfl, by simpa [Value.cells, o3, k3] using hf 3 f3 rfl, by simpa [Value.cells, o4, k4] using hf 4 f4 rfl⟩
theorem spot_none {a : Addr} {v : Value} (h : w.cell? a = some v) : ∃ b o, a = ⟨b, o, none⟩ := by
  obtain ⟨b, o, sp⟩ := a
  cases sp with
  | none => exact ⟨b, o, rfl⟩
  | some s =>
    exfalso
    simp only [World.cell?] at h
    split at h
    · simp at h
    · simp at h
/-- What a list of pairs is. -/
def strOf : Value → List UInt8
  | .string s => s.data.toList
  | _ => []
theorem open_pairs {t e : TypeId} {f0 f1 : Field} {fuel : Nat} {v : Value} {x : DataW H × List MemPlace} (ht : P.underlying t = some (.slice e)) (he : P.underlying e = some (.struct #[f0, f1]))
    (ce : P.cellsOf e = 2) (o0 : f0.offset = 0) (o1 : f1.offset = 1) (c0 : P.cellsOf f0.type = 1) (c1 : P.cellsOf f1.type = 1) (u0 : P.underlying f0.type = some .string) (u1 : P.underlying f1.type = some (.int .i64))
    (h : DataW.trod enc P w base (fun _ => true) held fuel t [v] = some x) : ∃ ls, PairsAt v ls w ∧ (∀ y ∈ ls, In64 y.2) ∧ ((x.1 = .nil ∧ ls = []) ∨ ∃ el sp, x.1 = .slice el sp ∧ el.length = ls.length) := by
  rcases Deep.open_slice_pairs ht he ce o0 o1 c0 c1 h with ⟨h0, rfl⟩ | ⟨a, len, cap, m, n, V0, V1, D0, D1, P0, P1, h0, _, hl, hm, hmm, rfl, hx⟩
  · simp at h0; subst h0
    exact ⟨[], ⟨by simp, none, 0, rfl, fun i hi => by simp at hi⟩, by simp, .inl ⟨rfl, rfl⟩⟩
  · simp at h0; subst h0
    simp at hmm
    subst hmm
    have hform : 0 < len → ∃ b o, a = ⟨b, o, none⟩ := fun h0 => by
      obtain ⟨g0, _⟩ := hx 0 (by omega)
      have e : a.add (0 * 2) = a := by simp [Addr.add]
      rw [e] at g0
      exact spot_none g0
    have hval : ∀ i, i < len → ∃ b o, a = ⟨b, o, none⟩ ∧ w.cell? ⟨b, o + i * 2, none⟩ = some (S (strOf (V0 i))) ∧ w.cell? ⟨b, o + i * 2 + 1, none⟩ = some (.int .i64 (intOf (V1 i))) ∧ In64 (intOf (V1 i)) := fun i hi => by
      obtain ⟨g0, g1, g2, g3⟩ := hx i (by omega)
      obtain ⟨s, e0, _, _⟩ := DataW.trod_string u0 g2
      obtain ⟨q, e1, _, hw⟩ := DataW.trod_int u1 g3
      simp at e0 e1
      obtain ⟨b, o, rfl⟩ := hform (by omega)
      rw [Addr.add_mid] at g0 g1
      rw [e0] at g0 ⊢
      rw [e1] at g1 ⊢
      exact ⟨b, o, rfl, g0, by rw [Nat.add_assoc]; exact g1, in64_wf hw⟩
    refine ⟨(List.range len).map fun i => (strOf (V0 i), intOf (V1 i)), ⟨by simp; omega, some a, _, by simp; rfl, fun i hi => ?_⟩, ?_, .inr ⟨_, _, rfl, by simp⟩⟩
    · simp at hi
      obtain ⟨b, o, rfl, q0, q1, q2⟩ := hval i hi
      have e : ((List.range len).map fun i => (strOf (V0 i), intOf (V1 i))).getD i ([], 0) = (strOf (V0 i), intOf (V1 i)) := by simp [List.getD_eq_getElem?_getD, hi]
      rw [e]
      exact ⟨b, o, rfl, q0, q1, q2⟩
    · intro y hy
      simp at hy
      obtain ⟨i, hi, rfl⟩ := hy
      obtain ⟨_, _, _, _, _, q⟩ := hval i hi
      exact q
end Go.Proofs.YtfkdailfcmnjlaaDoor

namespace Go.Proofs.YtfkdailfcmnjlaaDoor
open Go Go.ChangeShapes Go.WideShapes Go.ChangeAt Go.WideMaps Go.WideElems Go.RowKit Go.Deep
set_option maxRecDepth 100000

theorem cI64 : Tryd.prog.cellsOf 2 = 1 := by kernel_rfl
theorem cBool : Tryd.prog.cellsOf 4 = 1 := by kernel_rfl
theorem cA1 : Tryd.prog.cellsOf 38 = 3 := by kernel_rfl
theorem cA2 : Tryd.prog.cellsOf 39 = 3 := by kernel_rfl
theorem cA3 : Tryd.prog.cellsOf 40 = 3 := by kernel_rfl
theorem cSc : Tryd.prog.cellsOf 42 = 16 := by kernel_rfl
variable {H : Type} {enc : TypeId × Value → H} {w : World} {base : Nat} {spare : Nat → Bool} {held : Bool}
theorem ints3 {t e : TypeId} {n : Nat} {a b c : Value} {x : DataW H × List MemPlace} (ht : Tryd.prog.underlying t = some (.array 3 e)) (hc : Tryd.prog.cellsOf e = 1) (hu : Tryd.prog.underlying e = some (.int .i64)) (h : DataW.trod enc Tryd.prog w base spare held n t [a, b, c] = some x) : ∃ i j k, a = .int .i64 i ∧ b = .int .i64 j ∧ c = .int .i64 k ∧ In64 i ∧ In64 j ∧ In64 k := by
  obtain ⟨xs, m, rfl, hx, hl, hn, hel⟩ := DataW.trod_array ht h
  match xs, hn with
  | [y0, y1, y2], _ =>
    have e0 : DataW.trod enc Tryd.prog w base spare held m e [a] = some y0 := by simpa [hc] using hel 0 (by omega)
    have e1 : DataW.trod enc Tryd.prog w base spare held m e [b] = some y1 := by simpa [hc] using hel 1 (by omega)
    have e2 : DataW.trod enc Tryd.prog w base spare held m e [c] = some y2 := by simpa [hc] using hel 2 (by omega)
    obtain ⟨i, w0, _, f0⟩ := DataW.trod_int hu e0
    obtain ⟨j, w1, _, f1⟩ := DataW.trod_int hu e1
    obtain ⟨k, w2, _, f2⟩ := DataW.trod_int hu e2
    simp at w0 w1 w2
    exact ⟨i, j, k, w0, w1, w2, in64_wf f0, in64_wf f1, in64_wf f2⟩
theorem bools3 {t e : TypeId} {n : Nat} {a b c : Value} {x : DataW H × List MemPlace} (ht : Tryd.prog.underlying t = some (.array 3 e)) (hc : Tryd.prog.cellsOf e = 1) (hu : Tryd.prog.underlying e = some .bool) (h : DataW.trod enc Tryd.prog w base spare held n t [a, b, c] = some x) : ∃ i j k, a = .bool i ∧ b = .bool j ∧ c = .bool k := by
  obtain ⟨xs, m, rfl, hx, hl, hn, hel⟩ := DataW.trod_array ht h
  match xs, hn with
  | [y0, y1, y2], _ =>
    have e0 : DataW.trod enc Tryd.prog w base spare held m e [a] = some y0 := by simpa [hc] using hel 0 (by omega)
    have e1 : DataW.trod enc Tryd.prog w base spare held m e [b] = some y1 := by simpa [hc] using hel 1 (by omega)
    have e2 : DataW.trod enc Tryd.prog w base spare held m e [c] = some y2 := by simpa [hc] using hel 2 (by omega)
    obtain ⟨i, w0, _⟩ := DataW.trod_bool hu e0
    obtain ⟨j, w1, _⟩ := DataW.trod_bool hu e1
    obtain ⟨k, w2, _⟩ := DataW.trod_bool hu e2
    simp at w0 w1 w2
    exact ⟨i, j, k, w0, w1, w2⟩
set_option maxHeartbeats 2000000 in
theorem open_scene {r : Reach} {b0 : Nat} {v : Value} {d : DataW H} {p : List MemPlace} (hv : Value.okWide Tryd.prog w r b0 42 v) (h : DataW.Trod enc Tryd.prog w base spare held 42 v d p) : ∃ c, v = .agg (scC c) ∧ ScnIn c := by
  obtain ⟨cs, rfl, hsz⟩ := okWide_struct Tryd.underlying42 hv
  obtain ⟨l⟩ := cs
  have hl : l.length = 16 := by simpa using hsz.trans cSc
  obtain ⟨c0, c1, c2, c3, c4, c5, c6, c7, c8, c9, c10, c11, c12, c13, c14, c15, rfl⟩ : ∃ c0 c1 c2 c3 c4 c5 c6 c7 c8 c9 c10 c11 c12 c13 c14 c15, l = [c0, c1, c2, c3, c4, c5, c6, c7, c8, c9, c10, c11, c12, c13, c14, c15] := by
    match l, hl with
    | [x0, x1, x2, x3, x4, x5, x6, x7, x8, x9, x10, x11, x12, x13, x14, x15], _ => exact ⟨x0, x1, x2, x3, x4, x5, x6, x7, x8, x9, x10, x11, x12, x13, x14, x15, rfl⟩
  obtain ⟨fuel, hf⟩ := h
  obtain ⟨xs, n, _, hx, _, hlen, hf⟩ := DataW.trod_struct Tryd.underlying42 hf
  match xs, hlen with
  | [y0, y1, y2, y3, y4, y5, y6, y7, y8, y9], _ =>
    have q0 : DataW.trod enc Tryd.prog w base spare held n 3 [c0] = some y0 := by simpa [Value.cells, cInt, cI64, cBool, cA1, cA2, cA3] using hf 0 _ rfl
    have q1 : DataW.trod enc Tryd.prog w base spare held n 3 [c1] = some y1 := by simpa [Value.cells, cInt, cI64, cBool, cA1, cA2, cA3] using hf 1 _ rfl
    have q2 : DataW.trod enc Tryd.prog w base spare held n 3 [c2] = some y2 := by simpa [Value.cells, cInt, cI64, cBool, cA1, cA2, cA3] using hf 2 _ rfl
    have q3 : DataW.trod enc Tryd.prog w base spare held n 2 [c3] = some y3 := by simpa [Value.cells, cInt, cI64, cBool, cA1, cA2, cA3] using hf 3 _ rfl
    have q4 : DataW.trod enc Tryd.prog w base spare held n 2 [c4] = some y4 := by simpa [Value.cells, cInt, cI64, cBool, cA1, cA2, cA3] using hf 4 _ rfl
    have q5 : DataW.trod enc Tryd.prog w base spare held n 38 [c5, c6, c7] = some y5 := by simpa [Value.cells, cInt, cI64, cBool, cA1, cA2, cA3] using hf 5 _ rfl
    have q6 : DataW.trod enc Tryd.prog w base spare held n 39 [c8, c9, c10] = some y6 := by simpa [Value.cells, cInt, cI64, cBool, cA1, cA2, cA3] using hf 6 _ rfl
    have q7 : DataW.trod enc Tryd.prog w base spare held n 40 [c11, c12, c13] = some y7 := by simpa [Value.cells, cInt, cI64, cBool, cA1, cA2, cA3] using hf 7 _ rfl
    have q8 : DataW.trod enc Tryd.prog w base spare held n 2 [c14] = some y8 := by simpa [Value.cells, cInt, cI64, cBool, cA1, cA2, cA3] using hf 8 _ rfl
    have q9 : DataW.trod enc Tryd.prog w base spare held n 4 [c15] = some y9 := by simpa [Value.cells, cInt, cI64, cBool, cA1, cA2, cA3] using hf 9 _ rfl
    obtain ⟨sn, w0, _, f0⟩ := DataW.trod_int Tryd.underlying3 q0
    obtain ⟨tg, w1, _, f1⟩ := DataW.trod_int Tryd.underlying3 q1
    obtain ⟨wa, w2, _, f2⟩ := DataW.trod_int Tryd.underlying3 q2
    obtain ⟨nd, w3, _, f3⟩ := DataW.trod_int Tryd.underlying2 q3
    obtain ⟨wh, w4, _, f4⟩ := DataW.trod_int Tryd.underlying2 q4
    obtain ⟨l0, l1, l2, u0, u1, u2, g0, g1, g2⟩ := ints3 Tryd.underlying38 cI64 Tryd.underlying2 q5
    obtain ⟨i0, i1, i2, t0, t1, t2, k0, k1, k2⟩ := ints3 Tryd.underlying39 cInt Tryd.underlying3 q6
    obtain ⟨a0, a1, a2, s0, s1, s2⟩ := bools3 Tryd.underlying40 cBool Tryd.underlying4 q7
    obtain ⟨df, w8, _, f8⟩ := DataW.trod_int Tryd.underlying2 q8
    obtain ⟨op, w9, _⟩ := DataW.trod_bool Tryd.underlying4 q9
    simp at w0 w1 w2 w3 w4 w8 w9
    subst w0 w1 w2 w3 w4 w8 w9 u0 u1 u2 t0 t1 t2 s0 s1 s2
    exact ⟨⟨sn, tg, wa, nd, wh, l0, l1, l2, i0, i1, i2, a0, a1, a2, df, op⟩, rfl, ⟨in64_wf f0, in64_wf f1, in64_wf f3, in64_wf f4, g0, g1, g2, k0, k1, k2, in64_wf f8⟩⟩
end Go.Proofs.YtfkdailfcmnjlaaDoor
