/-
  A scene and a row of numbers, opened; the table of tens as it is laid.
-/
import Derived.Test.YtfkdailfcmnjlaaGreatDoorTells01
import Derived.Test.YtfkdailfcmnjlaaGreatDoorTells02
import Derived.Test.YtfkdailfcmnjlaaGreatDoorTells03
import Derived.Test.YtfkdailfcmnjlaaGreatDoorTells04
import Derived.Test.YtfkdailfcmnjlaaGreatDoorTells05
import Derived.Test.YtfkdailfcmnjlaaGreatDoorTells06
import Derived.Test.YtfkdailfcmnjlaaGreatDoorTells07
import Derived.Test.YtfkdailfcmnjlaaGreatDoorTells08
import Derived.Test.YtfkdailfcmnjlaaGreatDoorTells09
import Derived.Test.YtfkdailfcmnjlaaGreatDoorTells10
import Derived.Test.YtfkdailfcmnjlaaGreatDoorTells11
import Derived.Test.YtfkdailfcmnjlaaGreatDoorTells12
import Derived.Test.YtfkdailfcmnjlaaGreatDoorTells13
import Derived.Test.YtfkdailfcmnjlaaGreatDoorTells14
import Derived.Test.YtfkdailfcmnjlaaGreatDoorTells15
import Derived.Test.YtfkdailfcmnjlaaGreatDoorTells16
import Derived.Test.YtfkdailfcmnjlaaGreatDoorTells17
import Derived.Test.YtfkdailfcmnjlaaGreatDoorTells18
import Derived.Test.YtfkdailfcmnjlaaGreatDoorTells19
import Derived.Test.YtfkdailfcmnjlaaGreatDoorTells20
import Derived.Test.YtfkdailfcmnjlaaGreatDoorTells21
import Derived.Test.YtfkdailfcmnjlaaGreatDoorTells22
import Derived.Test.YtfkdailfcmnjlaaGreatDoorTells23
import Derived.Test.YtfkdailfcmnjlaaGreatDoorTells24
import Derived.Test.YtfkdailfcmnjlaaGreatDoorTells25
import Derived.Test.YtfkdailfcmnjlaaGreatDoorTells26
import Derived.Test.YtfkdailfcmnjlaaGreatDoorTells27
import Derived.Test.YtfkdailfcmnjlaaGreatDoorTells28
import Derived.Test.YtfkdailfcmnjlaaGreatDoorTells29
import Derived.Test.YtfkdailfcmnjlaaGreatDoorTells30
import Derived.Test.YtfkdailfcmnjlaaGreatDoorTells31
import Derived.Test.YtfkdailfcmnjlaaGreatDoorTells32
import Derived.Test.YtfkdailfcmnjlaaGreatDoorTells33
import Derived.Test.YtfkdailfcmnjlaaGreatDoorTells34
import Derived.Test.YtfkdailfcmnjlaaGreatDoorTells35
import Derived.Test.YtfkdailfcmnjlaaGreatDoorTells36
import Derived.Test.YtfkdailfcmnjlaaGreatDoorTells37
import Derived.Test.YtfkdailfcmnjlaaGreatDoorTells38
import Derived.Test.YtfkdailfcmnjlaaGreatDoorRows
import Derived.Test.YtfkdailfcmnjlaaGreatDoorLays
import Derived.Test.YtfkdailfcmnjlaaGreatDoorLays2
import Derived.ChangeSlices
import Derived.LaidMore
import Derived.WalkKit
import Derived.Deep.QuietTactic
import Derived.BigQuiet
import Derived.WalkSpells
import GoSem.Op.String
import Derived.Deep.AppendLies
import Derived.Deep.RegionHeld3
import Derived.Deep.DrawnRows
import Derived.Deep.RegionHeldLaw
import Derived.Deep.RegionLaw
import Derived.Lib.ParseIntBCases
import Derived.Deep.OwnRows
import Derived.Lib.LaidTab
import Derived.Lib.AppendIntMem
import Derived.Shelf.Strings.Builder1
import Derived.Laws.CopyOwn
import Derived.Deep.DeepCutAuto
import Derived.WalkSmall
import Derived.Lib.AppendZerosOnto
import Derived.Shelf.Abstract
import Derived.Deep.CutBlock
import Derived.ProofKit
import Derived.OpenShut
import Derived.Lib.SmallJoins
import Derived.Deep.SlicePairs
import Derived.Stop.Joined
import Derived.Stop.LaidErr
set_option linter.unusedVariables false
set_option linter.unusedSimpArgs false
namespace Go.Proofs.YtfkdailfcmnjlaaGreatDoor
open Go Go.ChangeShapes Go.WideShapes Go.ChangeAt Go.WideMaps Go.WideElems Go.RowKit Go.Deep
set_option maxRecDepth 100000

theorem cInt : Tryz.prog.cellsOf 3 = 1 := by kernel_rfl
theorem cI64 : Tryz.prog.cellsOf 2 = 1 := by kernel_rfl
theorem cBool : Tryz.prog.cellsOf 4 = 1 := by kernel_rfl
theorem cA1 : Tryz.prog.cellsOf 33 = 3 := by kernel_rfl
theorem cA2 : Tryz.prog.cellsOf 34 = 3 := by kernel_rfl
theorem cA3 : Tryz.prog.cellsOf 35 = 3 := by kernel_rfl
theorem cSc : Tryz.prog.cellsOf 37 = 16 := by kernel_rfl
variable {H : Type} {enc : TypeId × Value → H} {w : World} {base : Nat} {spare : Nat → Bool} {held : Bool}
theorem ints3 {t e : TypeId} {n : Nat} {a b c : Value} {x : DataW H × List MemPlace} (ht : Tryz.prog.underlying t = some (.array 3 e)) (hc : Tryz.prog.cellsOf e = 1) (hu : Tryz.prog.underlying e = some (.int .i64)) (h : DataW.trod enc Tryz.prog w base spare held n t [a, b, c] = some x) : ∃ i j k, a = .int .i64 i ∧ b = .int .i64 j ∧ c = .int .i64 k ∧ In64 i ∧ In64 j ∧ In64 k := by
  obtain ⟨xs, m, rfl, hx, hl, hn, hel⟩ := DataW.trod_array ht h
  match xs, hn with
  | [y0, y1, y2], _ =>
    have e0 : DataW.trod enc Tryz.prog w base spare held m e [a] = some y0 := by simpa [hc] using hel 0 (by omega)
    have e1 : DataW.trod enc Tryz.prog w base spare held m e [b] = some y1 := by simpa [hc] using hel 1 (by omega)
    have e2 : DataW.trod enc Tryz.prog w base spare held m e [c] = some y2 := by simpa [hc] using hel 2 (by omega)
    obtain ⟨i, w0, _, f0⟩ := DataW.trod_int hu e0
    obtain ⟨j, w1, _, f1⟩ := DataW.trod_int hu e1
    obtain ⟨k, w2, _, f2⟩ := DataW.trod_int hu e2
    simp at w0 w1 w2
    exact ⟨i, j, k, w0, w1, w2, in64_wf f0, in64_wf f1, in64_wf f2⟩
theorem bools3 {t e : TypeId} {n : Nat} {a b c : Value} {x : DataW H × List MemPlace} (ht : Tryz.prog.underlying t = some (.array 3 e)) (hc : Tryz.prog.cellsOf e = 1) (hu : Tryz.prog.underlying e = some .bool) (h : DataW.trod enc Tryz.prog w base spare held n t [a, b, c] = some x) : ∃ i j k, a = .bool i ∧ b = .bool j ∧ c = .bool k := by
  obtain ⟨xs, m, rfl, hx, hl, hn, hel⟩ := DataW.trod_array ht h
  match xs, hn with
  | [y0, y1, y2], _ =>
    have e0 : DataW.trod enc Tryz.prog w base spare held m e [a] = some y0 := by simpa [hc] using hel 0 (by omega)
    have e1 : DataW.trod enc Tryz.prog w base spare held m e [b] = some y1 := by simpa [hc] using hel 1 (by omega)
    have e2 : DataW.trod enc Tryz.prog w base spare held m e [c] = some y2 := by simpa [hc] using hel 2 (by omega)
    obtain ⟨i, w0, _⟩ := DataW.trod_bool hu e0
    obtain ⟨j, w1, _⟩ := DataW.trod_bool hu e1
    obtain ⟨k, w2, _⟩ := DataW.trod_bool hu e2
    simp at w0 w1 w2
    exact ⟨i, j, k, w0, w1, w2⟩
set_option maxHeartbeats 2000000 in
theorem open_scene {r : Reach} {b0 : Nat} {v : Value} {d : DataW H} {p : List MemPlace} (hv : Value.okWide Tryz.prog w r b0 37 v) (h : DataW.Trod enc Tryz.prog w base spare held 37 v d p) : ∃ c, v = .agg (scC c) ∧ ScnIn c := by
  obtain ⟨cs, rfl, hsz⟩ := okWide_struct Tryz.underlying37 hv
  obtain ⟨l⟩ := cs
  have hl : l.length = 16 := by simpa using hsz.trans cSc
  obtain ⟨c0, c1, c2, c3, c4, c5, c6, c7, c8, c9, c10, c11, c12, c13, c14, c15, rfl⟩ : ∃ c0 c1 c2 c3 c4 c5 c6 c7 c8 c9 c10 c11 c12 c13 c14 c15, l = [c0, c1, c2, c3, c4, c5, c6, c7, c8, c9, c10, c11, c12, c13, c14, c15] := by
    match l, hl with
    | [x0, x1, x2, x3, x4, x5, x6, x7, x8, x9, x10, x11, x12, x13, x14, x15], _ => exact ⟨x0, x1, x2, x3, x4, x5, x6, x7, x8, x9, x10, x11, x12, x13, x14, x15, rfl⟩
  obtain ⟨fuel, hf⟩ := h
  obtain ⟨xs, n, _, hx, _, hlen, hf⟩ := DataW.trod_struct Tryz.underlying37 hf
  match xs, hlen with
  | [y0, y1, y2, y3, y4, y5, y6, y7, y8, y9], _ =>
    have q0 : DataW.trod enc Tryz.prog w base spare held n 3 [c0] = some y0 := by simpa [Value.cells, cInt, cI64, cBool, cA1, cA2, cA3] using hf 0 _ rfl
    have q1 : DataW.trod enc Tryz.prog w base spare held n 3 [c1] = some y1 := by simpa [Value.cells, cInt, cI64, cBool, cA1, cA2, cA3] using hf 1 _ rfl
    have q2 : DataW.trod enc Tryz.prog w base spare held n 3 [c2] = some y2 := by simpa [Value.cells, cInt, cI64, cBool, cA1, cA2, cA3] using hf 2 _ rfl
    have q3 : DataW.trod enc Tryz.prog w base spare held n 2 [c3] = some y3 := by simpa [Value.cells, cInt, cI64, cBool, cA1, cA2, cA3] using hf 3 _ rfl
    have q4 : DataW.trod enc Tryz.prog w base spare held n 2 [c4] = some y4 := by simpa [Value.cells, cInt, cI64, cBool, cA1, cA2, cA3] using hf 4 _ rfl
    have q5 : DataW.trod enc Tryz.prog w base spare held n 33 [c5, c6, c7] = some y5 := by simpa [Value.cells, cInt, cI64, cBool, cA1, cA2, cA3] using hf 5 _ rfl
    have q6 : DataW.trod enc Tryz.prog w base spare held n 34 [c8, c9, c10] = some y6 := by simpa [Value.cells, cInt, cI64, cBool, cA1, cA2, cA3] using hf 6 _ rfl
    have q7 : DataW.trod enc Tryz.prog w base spare held n 35 [c11, c12, c13] = some y7 := by simpa [Value.cells, cInt, cI64, cBool, cA1, cA2, cA3] using hf 7 _ rfl
    have q8 : DataW.trod enc Tryz.prog w base spare held n 2 [c14] = some y8 := by simpa [Value.cells, cInt, cI64, cBool, cA1, cA2, cA3] using hf 8 _ rfl
    have q9 : DataW.trod enc Tryz.prog w base spare held n 4 [c15] = some y9 := by simpa [Value.cells, cInt, cI64, cBool, cA1, cA2, cA3] using hf 9 _ rfl
    obtain ⟨sn, w0, _, f0⟩ := DataW.trod_int Tryz.underlying3 q0
    obtain ⟨tg, w1, _, f1⟩ := DataW.trod_int Tryz.underlying3 q1
    obtain ⟨wa, w2, _, f2⟩ := DataW.trod_int Tryz.underlying3 q2
    obtain ⟨nd, w3, _, f3⟩ := DataW.trod_int Tryz.underlying2 q3
    obtain ⟨wh, w4, _, f4⟩ := DataW.trod_int Tryz.underlying2 q4
    obtain ⟨l0, l1, l2, u0, u1, u2, g0, g1, g2⟩ := ints3 Tryz.underlying33 cI64 Tryz.underlying2 q5
    obtain ⟨i0, i1, i2, t0, t1, t2, k0, k1, k2⟩ := ints3 Tryz.underlying34 cInt Tryz.underlying3 q6
    obtain ⟨a0, a1, a2, s0, s1, s2⟩ := bools3 Tryz.underlying35 cBool Tryz.underlying4 q7
    obtain ⟨df, w8, _, f8⟩ := DataW.trod_int Tryz.underlying2 q8
    obtain ⟨op, w9, _⟩ := DataW.trod_bool Tryz.underlying4 q9
    simp at w0 w1 w2 w3 w4 w8 w9
    subst w0 w1 w2 w3 w4 w8 w9 u0 u1 u2 t0 t1 t2 s0 s1 s2
    exact ⟨⟨sn, tg, wa, nd, wh, l0, l1, l2, i0, i1, i2, a0, a1, a2, df, op⟩, rfl, ⟨in64_wf f0, in64_wf f1, in64_wf f3, in64_wf f4, g0, g1, g2, k0, k1, k2, in64_wf f8⟩⟩
theorem IntsAt.below {v : Value} {zs : List Int} {w w' : World} (h : IntsAt v zs w) (hb : Below w.heap.size w w') : IntsAt v zs w' := by
  obtain ⟨h1, a, cap, e, h2⟩ := h
  refine ⟨h1, a, cap, e, fun i hi => ?_⟩
  obtain ⟨b, o, ea, hc⟩ := h2 i hi
  exact ⟨b, o, ea, by rw [hb.cell (p := ⟨b, o + i, none⟩) (World.block_lt_of_cell? w _ hc)]; exact hc⟩
theorem open_raw {r : Reach} {b0 : Nat} {v : Value} {d : DataW H} {p : List MemPlace} (hv : Value.okWide Tryz.prog w r b0 38 v) (h : DataW.Trod enc Tryz.prog w base (fun _ => true) held 38 v d p) : ∃ zs, IntsAt v zs w ∧ ∀ z ∈ zs, In64 z := by
  obtain ⟨a0, len, cap, rfl⟩ := okWide_slice Tryz.underlying38 hv
  obtain ⟨fuel, hf⟩ := h
  rcases Go.ChangeShapes.open_ints Tryz.underlying38 Tryz.underlying3 cInt hf with ⟨h0, _⟩ | ⟨a, n, c, zs, h0, _, hl, hm, hz, _, hc, hw⟩
  · simp [Value.cells] at h0
    obtain ⟨rfl, rfl, rfl⟩ := h0
    exact ⟨[], ⟨by simp, none, 0, rfl, fun i hi => by simp at hi⟩, by simp⟩
  · simp [Value.cells] at h0
    obtain ⟨rfl, rfl, rfl⟩ := h0
    simp at hz
    have hlen : (zs.take len).length = len := by simp; omega
    refine ⟨zs.take len, ⟨by rw [hlen]; omega, some a, cap, by rw [hlen], fun i hi => ?_⟩, fun z hz' => in64_wf (hw z (List.mem_of_mem_take hz'))⟩
    rw [hlen] at hi
    have h1 := hc i (by omega)
    have h0' := hc 0 (by omega)
    have e0 : a.add 0 = a := by simp [Addr.add]
    rw [e0] at h0'
    obtain ⟨b, o, rfl⟩ := spot_none h0'
    rw [Addr.add_mid] at h1
    refine ⟨b, o, rfl, ?_⟩
    rw [h1]
    congr 2
    simp only [List.getD_eq_getElem?_getD, List.getElem?_take]
    rw [if_pos hi]
theorem laid_out : laidOutB Tryz.prog = true := by kernel_rfl
end Go.Proofs.YtfkdailfcmnjlaaGreatDoor
