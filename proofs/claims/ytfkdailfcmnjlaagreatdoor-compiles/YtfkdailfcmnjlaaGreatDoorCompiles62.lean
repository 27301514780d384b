/-
  What the laid variables give, code.effects among them.
-/
import Derived.Test.YtfkdailfcmnjlaaGreatDoorCompiles01
import Derived.Test.YtfkdailfcmnjlaaGreatDoorCompiles02
import Derived.Test.YtfkdailfcmnjlaaGreatDoorCompiles04
import Derived.Test.YtfkdailfcmnjlaaGreatDoorCompiles05
import Derived.Test.YtfkdailfcmnjlaaGreatDoorCompiles06
import Derived.Test.YtfkdailfcmnjlaaGreatDoorCompiles07
import Derived.Test.YtfkdailfcmnjlaaGreatDoorCompiles08
import Derived.Test.YtfkdailfcmnjlaaGreatDoorCompiles09
import Derived.Test.YtfkdailfcmnjlaaGreatDoorCompiles10
import Derived.Test.YtfkdailfcmnjlaaGreatDoorCompiles11
import Derived.Test.YtfkdailfcmnjlaaGreatDoorCompiles12
import Derived.Test.YtfkdailfcmnjlaaGreatDoorCompiles13
import Derived.Test.YtfkdailfcmnjlaaGreatDoorCompiles14
import Derived.Test.YtfkdailfcmnjlaaGreatDoorCompiles15
import Derived.Test.YtfkdailfcmnjlaaGreatDoorCompiles16
import Derived.Test.YtfkdailfcmnjlaaGreatDoorCompiles17
import Derived.Test.YtfkdailfcmnjlaaGreatDoorCompiles18
import Derived.Test.YtfkdailfcmnjlaaGreatDoorCompiles19
import Derived.Test.YtfkdailfcmnjlaaGreatDoorCompiles20
import Derived.Test.YtfkdailfcmnjlaaGreatDoorCompiles21
import Derived.Test.YtfkdailfcmnjlaaGreatDoorCompiles22
import Derived.Test.YtfkdailfcmnjlaaGreatDoorCompiles23
import Derived.Test.YtfkdailfcmnjlaaGreatDoorCompiles24
import Derived.Test.YtfkdailfcmnjlaaGreatDoorCompiles28
import Derived.Test.YtfkdailfcmnjlaaGreatDoorCompiles29
import Derived.Test.YtfkdailfcmnjlaaGreatDoorCompiles30
import Derived.Test.YtfkdailfcmnjlaaGreatDoorCompiles31
import Derived.Test.YtfkdailfcmnjlaaGreatDoorCompiles32
import Derived.Test.YtfkdailfcmnjlaaGreatDoorCompiles34
import Derived.Test.YtfkdailfcmnjlaaGreatDoorCompiles35
import Derived.Test.YtfkdailfcmnjlaaGreatDoorCompiles37
import Derived.Test.YtfkdailfcmnjlaaGreatDoorCompiles38
import Derived.Test.YtfkdailfcmnjlaaGreatDoorCompiles39
import Derived.Test.YtfkdailfcmnjlaaGreatDoorCompiles40
import Derived.Test.YtfkdailfcmnjlaaGreatDoorCompiles41
import Derived.Test.YtfkdailfcmnjlaaGreatDoorCompiles44
import Derived.Test.YtfkdailfcmnjlaaGreatDoorCompiles61
import Derived.Test.YtfkdailfcmnjlaaGreatDoorLays
import Derived.Test.YtfkdailfcmnjlaaGreatDoorLays2
import Derived.Test.YtfkdailfcmnjlaaGreatDoorRows
import Derived.LaidMore
import Derived.Deep.Strs
import Derived.WalkKit
import Derived.Deep.QuietTactic
import Derived.BigQuiet
import Derived.WalkSpells
import GoSem.Op.String
import Derived.Deep.AppendLies
import Derived.Deep.RegionHeld3
import Derived.Deep.DrawnRows
import Derived.Deep.RegionHeldLaw
import Derived.Deep.RegionLaw
import Derived.Lib.ParseIntBCases
import Derived.Deep.OwnRows
import Derived.Lib.LaidTab
import Derived.Lib.AppendIntMem
import Derived.Shelf.Strings.Builder1
import Derived.Laws.CopyOwn
import Derived.Deep.DeepCutAuto
import Derived.WalkSmall
import Derived.Lib.AppendZerosOnto
import Derived.ProofKit
import Derived.OpenShut
import Derived.Stop.Joined
import Derived.Stop.LaidErr
set_option linter.unusedVariables false
set_option linter.unusedSimpArgs false
namespace Go.Proofs.YtfkdailfcmnjlaaGreatDoor
open Go Go.ChangeShapes Go.WideShapes Go.ChangeAt Go.RowKit
set_option maxRecDepth 100000

/-- The list of laid variables. -/
def laid7 : List (String × DataW Unit) := [("math/bits.deBruijn32tab", Rows.laid_math_bits_deBruijn32tab), ("math/bits.deBruijn64tab", Rows.laid_math_bits_deBruijn64tab), ("internal/strconv.uint64pow10", Rows.laid_internal_strconv_uint64pow10), ("gavel/code.effects", Rows.laid_gavel_code_effects), ("strconv.ErrRange", Rows.laid_strconv_ErrRange), ("strconv.ErrSyntax", Rows.laid_strconv_ErrSyntax), ("gavel/words.spellings", Rows.laid_gavel_words_spellings)]
theorem gEff : Tryz.prog.globalNamed "gavel/code.effects" = some 1 := by kernel_rfl
theorem of_laid7 {W : World} (h : laidMetH Tryz.prog laid7 W) : Wd W := by
  have h' : laidMet Tryz.prog laid7 W := by
    rw [MakeChecks.laidMetH_plain _ _ _ (by kernel_rfl)] at h
    exact h
  have h3 := h'.tail.tail.tail.tail
  have h5 := h3.tail.tail
  constructor
  · obtain ⟨ps, ⟨g0, t0, cs0, f0, p0, q0, hg0, ht0, hv0, hd0, _, _⟩, _, _⟩ := h5
    obtain rfl := Option.some.inj (gSpell.symm.trans hg0)
    obtain rfl := Option.some.inj (tSpell.symm.trans ht0)
    obtain ⟨xs, m, rfl, hx, hlen, hn, hel⟩ := DataW.trod_array uSpell hd0
    rw [cSpell] at hlen
    simp only [Prod.mk.injEq] at hx
    rw [spell_datum] at hx
    have hx1 : spell.map (fun s => (DataW.lit (.string s) : DataW Unit)) = xs.map (·.1) := by
      have := hx.1
      injection this
    intro k hk
    have he := hel k hk
    rw [cString, Nat.mul_one] at he
    have hkx : k < xs.length := by omega
    rw [List.getElem?_eq_getElem hkx] at he
    obtain ⟨s, e1, e2, _⟩ := DataW.trod_string Tryz.underlying9 he
    have hcell := World.var?_cell hg0 hv0 k
    rw [hcell]
    have hkc : k < cs0.toList.length := by omega
    have e3 : cs0[k]? = some (.string s) := by
      rw [List.drop_eq_getElem_cons hkc] at e1
      simp only [List.take_succ_cons, List.take_zero, List.cons.injEq, and_true] at e1
      rw [← Array.getElem?_toList, List.getElem?_eq_getElem hkc, e1]
    rw [e3]
    have e4 := congrArg (fun l => l[k]?) hx1
    have hks : k < spell.length := by rw [show spell.length = 36 from by decide]; exact hk
    simp only [List.getElem?_map, List.getElem?_eq_getElem hkx, List.getElem?_eq_getElem hks, Option.map_some, e2, Option.some.injEq, DataW.lit.injEq, Lit.string.injEq] at e4
    have e5 : spell.getD k [] = s.data.toList := by rw [List.getD_eq_getElem?_getD, List.getElem?_eq_getElem hks]; exact e4
    rw [e5]
  · obtain ⟨ps, ⟨g0, t0, cs0, f0, p0, q0, hg0, ht0, hv0, hd0, _, _⟩, _, _⟩ := h3
    obtain rfl := Option.some.inj (gRange.symm.trans hg0)
    obtain rfl := Option.some.inj (tRange.symm.trans ht0)
    have hcell := World.var?_cell hg0 hv0 0
    obtain ⟨l0⟩ := cs0
    cases f0 with
    | zero => simp [DataW.trod] at hd0
    | succ m =>
      unfold DataW.trod at hd0
      rw [Tryz.underlying165] at hd0
      split at hd0 <;> simp_all

theorem tEff : (Tryz.prog.globals[1]?).map (·.type) = some 322 := by kernel_rfl
theorem cEff : Tryz.prog.cellsOf 322 = 57 := by kernel_rfl
theorem cEff1 : Tryz.prog.cellsOf 321 = 3 := by kernel_rfl
theorem uEff : Tryz.prog.underlying 322 = some (.array 19 321) := by kernel_rfl
theorem eff_datum : Rows.laid_gavel_code_effects (H := Unit) = .agg ((List.range 19).map fun k => .agg [.lit (.int .i64 (effL.getD (k * 3) 0)), .lit (.int .i64 (effL.getD (k * 3 + 1) 0)), .lit (.int .i64 (effL.getD (k * 3 + 2) 0))]) := by kernel_rfl
theorem at_cut {l : List Value} {a r : Nat} {x : Value} (hr : r < 3) (h : ((((l.drop a).take 3).drop r).take 1) = [x]) : l[a + r]? = some x := by
  have := congrArg (fun l => l[0]?) h
  simp [List.getElem?_take, List.getElem?_drop, hr] at this
  exact this
theorem cInt7 : Tryz.prog.cellsOf 3 = 1 := by kernel_rfl
theorem cTy : Tryz.prog.cellsOf 220 = 1 := by kernel_rfl
theorem uTy : Tryz.prog.underlying 220 = some (.int .i64) := by kernel_rfl
theorem ef_laid7 {W : World} (h : laidMetH Tryz.prog laid7 W) : Ef W := by
  have h' : laidMet Tryz.prog laid7 W := by
    rw [MakeChecks.laidMetH_plain _ _ _ (by kernel_rfl)] at h
    exact h
  obtain ⟨ps, ⟨g0, t0, cs0, f0, p0, q0, hg0, ht0, hv0, hd0, _, _⟩, _, _⟩ := h'.tail.tail.tail
  obtain rfl := Option.some.inj (gEff.symm.trans hg0)
  obtain rfl := Option.some.inj (tEff.symm.trans ht0)
  obtain ⟨xs, m, rfl, hx, hlen, hn, hel⟩ := DataW.trod_array uEff hd0
  rw [cEff] at hlen
  simp only [Prod.mk.injEq] at hx
  rw [eff_datum] at hx
  have hx1 := hx.1
  injection hx1 with hx2
  intro j hj
  have hk : j / 3 < 19 := by omega
  have he := hel (j / 3) hk
  rw [cEff1] at he
  have hkx : j / 3 < xs.length := by omega
  rw [List.getElem?_eq_getElem hkx] at he
  obtain ⟨y0, y1, y2, n, hy, hcl, i0, i1, i2⟩ := Go.Deep.trod_struct3 Tryz.underlying321 he
  simp only [cInt7, cTy] at i0 i1 i2
  obtain ⟨n0, e0, d0, _⟩ := DataW.trod_int Tryz.underlying3 i0
  obtain ⟨n1, e1, d1, _⟩ := DataW.trod_int uTy i1
  obtain ⟨n2, e2, d2, _⟩ := DataW.trod_int uTy i2
  have h3 := congrArg (fun l => l[j / 3]?) hx2
  simp only [List.getElem?_map, List.getElem?_range hk, List.getElem?_eq_getElem hkx, Option.map_some, hy, d0, d1, d2, Option.some.injEq, DataW.agg.injEq, List.cons.injEq, DataW.lit.injEq, Lit.int.injEq, and_true, true_and] at h3
  obtain ⟨k0, k1, k2⟩ := h3
  have hcell := World.var?_cell hg0 hv0 j
  rw [hcell, ← Array.getElem?_toList]
  have hj3 : j = j / 3 * 3 ∨ j = j / 3 * 3 + 1 ∨ j = j / 3 * 3 + 2 := by omega
  rcases hj3 with hj3 | hj3 | hj3
  · rw [hj3]
    have := at_cut (r := 0) (by omega) e0
    rw [Nat.add_zero] at this
    rw [this, k0]
  · rw [hj3]
    have := at_cut (r := 1) (by omega) e1
    rw [this, k1]
  · rw [hj3]
    have := at_cut (r := 2) (by omega) e2
    rw [this, k2]
theorem laid_out7 : laidOutB Tryz.prog = true := by kernel_rfl
/-- The door's own heap meets the condition. -/
theorem door_met7 (os : Os) (args : Array Value) : laidMetH Tryz.prog laid7 ((World.doorLaid Tryz.prog 400 os).forCall (fun _ _ => 0) ⟨#[], args, []⟩).memory :=
  laidMetH_of_parts3 (fuel := 8) (laidMet_of_run' 8 (by kernel_rfl) (by kernel_rfl)) (by kernel_rfl) (by kernel_rfl)
end Go.Proofs.YtfkdailfcmnjlaaGreatDoor
