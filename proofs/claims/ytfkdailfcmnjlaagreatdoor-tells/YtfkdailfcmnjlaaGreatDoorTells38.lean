/-
  What the laid variables give: the spellings of words, and the library's ErrRange; a world that meets them.
-/
import Derived.Test.YtfkdailfcmnjlaaGreatDoorTells01
import Derived.Test.YtfkdailfcmnjlaaGreatDoorTells04
import Derived.Test.YtfkdailfcmnjlaaGreatDoorTells05
import Derived.Test.YtfkdailfcmnjlaaGreatDoorTells06
import Derived.Test.YtfkdailfcmnjlaaGreatDoorTells07
import Derived.Test.YtfkdailfcmnjlaaGreatDoorTells08
import Derived.Test.YtfkdailfcmnjlaaGreatDoorTells10
import Derived.Test.YtfkdailfcmnjlaaGreatDoorTells11
import Derived.Test.YtfkdailfcmnjlaaGreatDoorTells12
import Derived.Test.YtfkdailfcmnjlaaGreatDoorRows
import Derived.Test.YtfkdailfcmnjlaaGreatDoorLays
import Derived.ProofKit
import Derived.LaidMore
import Derived.OpenShut
import Derived.Stop.Joined
import Derived.Stop.LaidErr
import Derived.WalkKit
import Derived.Deep.QuietTactic
import Derived.BigQuiet
import Derived.WalkSpells
import GoSem.Op.String
import Derived.Deep.AppendLies
import Derived.Deep.RegionHeld3
import Derived.Deep.DrawnRows
import Derived.Deep.RegionHeldLaw
import Derived.Deep.RegionLaw
import Derived.Lib.ParseIntBCases
set_option linter.unusedVariables false
set_option linter.unusedSimpArgs false
namespace Go.Proofs.YtfkdailfcmnjlaaGreatDoor
open Go Go.ChangeShapes Go.WideShapes Go.ChangeAt Go.RowKit
set_option maxRecDepth 100000

theorem own : ownKnob Tryz.prog.godebug = none := by kernel_rfl
theorem gSpell : Tryz.prog.globalNamed "gavel/words.spellings" = some 0 := by kernel_rfl
theorem gRange : Tryz.prog.globalNamed "strconv.ErrRange" = some 4 := by kernel_rfl
theorem tSpell : (Tryz.prog.globals[0]?).map (·.type) = some 272 := by kernel_rfl
theorem tRange : (Tryz.prog.globals[4]?).map (·.type) = some 165 := by kernel_rfl
theorem cString : Tryz.prog.cellsOf 9 = 1 := by kernel_rfl
theorem cSpell : Tryz.prog.cellsOf 272 = 36 := by kernel_rfl
theorem uSpell : Tryz.prog.underlying 272 = some (.array 36 9) := by kernel_rfl
/-- The list of laid variables. -/
def laidL : List (String × DataW Unit) := [("math/bits.deBruijn32tab", Rows.laid_math_bits_deBruijn32tab), ("math/bits.deBruijn64tab", Rows.laid_math_bits_deBruijn64tab), ("internal/strconv.uint64pow10", Rows.laid_internal_strconv_uint64pow10), ("strconv.ErrRange", Rows.laid_strconv_ErrRange), ("strconv.ErrSyntax", Rows.laid_strconv_ErrSyntax), ("gavel/words.spellings", Rows.laid_gavel_words_spellings)]

theorem spell_datum : Rows.laid_gavel_words_spellings (H := Unit) = .agg (spell.map fun s => .lit (.string s)) := by kernel_rfl

theorem of_laid {W : World} (h : laidMetH Tryz.prog laidL W) : Wd W := by
  have h' : laidMet Tryz.prog laidL W := by
    rw [MakeChecks.laidMetH_plain _ _ _ (by kernel_rfl)] at h
    exact h
  have h3 := h'.tail.tail.tail
  have h5 := h3.tail.tail
  constructor
  · obtain ⟨ps, ⟨g0, t0, cs0, f0, p0, q0, hg0, ht0, hv0, hd0, _, _⟩, _, _⟩ := h5
    obtain rfl := Option.some.inj (gSpell.symm.trans hg0)
    obtain rfl := Option.some.inj (tSpell.symm.trans ht0)
    obtain ⟨xs, m, rfl, hx, hlen, hn, hel⟩ := DataW.trod_array uSpell hd0
    rw [cSpell] at hlen
    simp only [Prod.mk.injEq] at hx
    rw [spell_datum] at hx
    have hx1 : spell.map (fun s => (DataW.lit (.string s) : DataW Unit)) = xs.map (·.1) := by
      have := hx.1
      injection this
    intro k hk
    have he := hel k hk
    rw [cString, Nat.mul_one] at he
    have hkx : k < xs.length := by omega
    rw [List.getElem?_eq_getElem hkx] at he
    obtain ⟨s, e1, e2, _⟩ := DataW.trod_string Tryz.underlying9 he
    have hcell := World.var?_cell hg0 hv0 k
    rw [hcell]
    have hkc : k < cs0.toList.length := by omega
    have e3 : cs0[k]? = some (.string s) := by
      rw [List.drop_eq_getElem_cons hkc] at e1
      simp only [List.take_succ_cons, List.take_zero, List.cons.injEq, and_true] at e1
      rw [← Array.getElem?_toList, List.getElem?_eq_getElem hkc, e1]
    rw [e3]
    have e4 := congrArg (fun l => l[k]?) hx1
    have hks : k < spell.length := by rw [show spell.length = 36 from by decide]; exact hk
    simp only [List.getElem?_map, List.getElem?_eq_getElem hkx, List.getElem?_eq_getElem hks, Option.map_some, e2, Option.some.injEq, DataW.lit.injEq, Lit.string.injEq] at e4
    have e5 : spell.getD k [] = s.data.toList := by rw [List.getD_eq_getElem?_getD, List.getElem?_eq_getElem hks]; exact e4
    rw [e5]
  · obtain ⟨ps, ⟨g0, t0, cs0, f0, p0, q0, hg0, ht0, hv0, hd0, _, _⟩, _, _⟩ := h3
    obtain rfl := Option.some.inj (gRange.symm.trans hg0)
    obtain rfl := Option.some.inj (tRange.symm.trans ht0)
    have hcell := World.var?_cell hg0 hv0 0
    obtain ⟨l0⟩ := cs0
    cases f0 with
    | zero => simp [DataW.trod] at hd0
    | succ m =>
      unfold DataW.trod at hd0
      rw [Tryz.underlying165] at hd0
      split at hd0 <;> simp_all

/-- The door's own heap meets the condition. -/
theorem door_met (os : Os) (args : Array Value) : laidMetH Tryz.prog laidL ((World.doorLaid Tryz.prog 400 os).forCall (fun _ _ => 0) ⟨#[], args, []⟩).memory :=
  laidMetH_of_parts3 (fuel := 8) (laidMet_of_run' 8 (by kernel_rfl) (by kernel_rfl)) (by kernel_rfl) (by kernel_rfl)
end Go.Proofs.YtfkdailfcmnjlaaGreatDoor
