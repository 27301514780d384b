/-
  Proved: for every scene, every row of raw numbers and every text, gavelkeep.Plain answers true (what is written of the numbers is printed with all its brackets, however it was written, and is its own plain form; of a text that is no policy a place in it is told), and the arguments read as they did; where the listed package-level variables begin as the program's text lays them.
-/
import Derived.Test.YtfkdailfcmnjlaaGreatDoorPlain01
import Derived.Test.YtfkdailfcmnjlaaGreatDoorPlain02
import Derived.Test.YtfkdailfcmnjlaaGreatDoorPlain03
import Derived.Test.YtfkdailfcmnjlaaGreatDoorPlain04
import Derived.Test.YtfkdailfcmnjlaaGreatDoorPlain05
import Derived.Test.YtfkdailfcmnjlaaGreatDoorPlain06
import Derived.Test.YtfkdailfcmnjlaaGreatDoorPlain07
import Derived.Test.YtfkdailfcmnjlaaGreatDoorPlain08
import Derived.Test.YtfkdailfcmnjlaaGreatDoorPlain09
import Derived.Test.YtfkdailfcmnjlaaGreatDoorPlain10
import Derived.Test.YtfkdailfcmnjlaaGreatDoorPlain11
import Derived.Test.YtfkdailfcmnjlaaGreatDoorPlain12
import Derived.Test.YtfkdailfcmnjlaaGreatDoorPlain13
import Derived.Test.YtfkdailfcmnjlaaGreatDoorPlain14
import Derived.Test.YtfkdailfcmnjlaaGreatDoorPlain15
import Derived.Test.YtfkdailfcmnjlaaGreatDoorPlain16
import Derived.Test.YtfkdailfcmnjlaaGreatDoorPlain17
import Derived.Test.YtfkdailfcmnjlaaGreatDoorPlain18
import Derived.Test.YtfkdailfcmnjlaaGreatDoorPlain19
import Derived.Test.YtfkdailfcmnjlaaGreatDoorPlain20
import Derived.Test.YtfkdailfcmnjlaaGreatDoorPlain21
import Derived.Test.YtfkdailfcmnjlaaGreatDoorPlain22
import Derived.Test.YtfkdailfcmnjlaaGreatDoorPlain23
import Derived.Test.YtfkdailfcmnjlaaGreatDoorPlain24
import Derived.Test.YtfkdailfcmnjlaaGreatDoorPlain25
import Derived.Test.YtfkdailfcmnjlaaGreatDoorPlain26
import Derived.Test.YtfkdailfcmnjlaaGreatDoorPlain27
import Derived.Test.YtfkdailfcmnjlaaGreatDoorPlain28
import Derived.Test.YtfkdailfcmnjlaaGreatDoorPlain29
import Derived.Test.YtfkdailfcmnjlaaGreatDoorPlain30
import Derived.Test.YtfkdailfcmnjlaaGreatDoorPlain31
import Derived.Test.YtfkdailfcmnjlaaGreatDoorPlain32
import Derived.Test.YtfkdailfcmnjlaaGreatDoorPlain33
import Derived.Test.YtfkdailfcmnjlaaGreatDoorPlain34
import Derived.Test.YtfkdailfcmnjlaaGreatDoorPlain35
import Derived.Test.YtfkdailfcmnjlaaGreatDoorPlain36
import Derived.Test.YtfkdailfcmnjlaaGreatDoorRows
import Derived.Test.YtfkdailfcmnjlaaGreatDoorCards
import Derived.Test.YtfkdailfcmnjlaaGreatDoorTie
import Derived.Test.YtfkdailfcmnjlaaGreatDoorLays
import Derived.Test.YtfkdailfcmnjlaaGreatDoorLays2
import Derived.ProofKit
import Derived.LaidMore
import Derived.OpenShut
import Derived.Stop.Joined
import Derived.SevenTiedAt
import Derived.Carry
import Derived.WalkKit
import Derived.Deep.QuietTactic
import Derived.BigQuiet
import Derived.WalkSpells
import GoSem.Op.String
import Derived.Deep.AppendLies
import Derived.Deep.RegionHeld3
import Derived.Deep.DrawnRows
import Derived.Deep.RegionHeldLaw
import Derived.Deep.RegionLaw
import Derived.Lib.ParseIntBCases
import Derived.Deep.OwnRows
import Derived.Lib.LaidTab
import Derived.Lib.AppendIntMem
import Derived.Shelf.Strings.Builder1
import Derived.Laws.CopyOwn
import Derived.Deep.DeepCutAuto
import Derived.WalkSmall
import Derived.Lib.AppendZerosOnto
import Derived.Shelf.Abstract
import Derived.Deep.CutBlock
import Derived.Lib.SmallJoins
import Derived.Deep.SlicePairs
import Derived.Stop.LaidErr
import Derived.ChangeSlices
set_option linter.unusedVariables false
set_option linter.unusedSimpArgs false
namespace Go.Proofs.YtfkdailfcmnjlaaGreatDoor
open Go Go.ChangeShapes Go.WideShapes Go.ChangeAt Go.WideMaps Go.WideElems Go.RowKit Go.Deep Go.Joins
set_option maxRecDepth 100000

theorem plain_lifted (os : Os) (started : os.Started) (H : Type) (enc : TypeId × Value → H) :
    ReturnsInHanded {} Tryz.checked os 5 .any (fun w args => (Rows.plainSpec.pre enc Tryz.prog Tryz.f5 [] false w args ∧ laidMetH Tryz.prog laidL w) ∧ sizedMet enc Tryz.prog Tryz.f5 (OpenSpec.ofChange Rows.plainSpec) false w args)
      (Rows.plainSpec.post enc Tryz.prog Tryz.f5 false true false false) := by
  refine returnsInHanded_of_change_and (C := Tryz.checked) (X := fun w _ => laidMetH Tryz.prog laidL w) (fun _ _ _ hh h => h.of_heap hh) own started (by kernel_rfl) Tryz.func5
    (ChangeSpec.witness_shaped (enc := enc) (C := Tryz.checked) (os := os) (X := fun w _ => laidMetH Tryz.prog laidL w) false (World.doorLaid Tryz.prog 400 os) #[.agg #[.int .i64 0, .int .i64 0, .int .i64 0, .int .i64 0, .int .i64 0, .int .i64 0, .int .i64 0, .int .i64 0, .int .i64 0, .int .i64 0, .int .i64 0, .bool false, .bool false, .bool false, .int .i64 0, .bool false], .slice none 0 0, .string ⟨#[]⟩] 8 rfl (World.shaped_of_RefB (by kernel_rfl) (by kernel_rfl)) (by kernel_rfl) (by kernel_rfl) (by kernel_rfl) (door_met os _)) ?_
  intro W base args ds gs before hval0 hW _ hsz hL _
  have hval : ∀ (j : Nat) t v, Tryz.f5.params[j]? = some t → args[j]? = some v → Value.okWide Tryz.prog W .any base t v := hval0
  have hW' := hW
  obtain ⟨p, q, hA0, hV, rfl, hfz, hnd⟩ := hW
  have hA : DataW.TrodAll enc Tryz.prog W 0 (fun _ => true) true Tryz.f5.params.toList args.toList ds p := hA0
  rw [Tryz.params5] at hA hval
  obtain ⟨v0, v1, v2, d0, d1, d2, p0, p1, p2, rfl, rfl, rfl, h0, h1, h2⟩ := trodAll_three hA
  obtain ⟨rfl, rfl⟩ := trodVars_none hV
  have h0k := h0
  have h1k := h1
  have h2k := h2
  obtain ⟨c, rfl, hc⟩ := open_scene (hval 0 37 v0 rfl rfl) h0
  obtain ⟨zs, hz, hin⟩ := open_raw (hval 1 38 v1 rfl rfl) h1
  obtain ⟨s, rfl, rfl, rfl, hs⟩ := Go.ChangeMaps.open_string Tryz.underlying9 (hval 2 9 v2 rfl rfl) h2
  have hl : s.data.toList.length ≤ maxLen := by rw [Array.length_toList]; exact hs
  have e0 : (Value.string s) = S s.data.toList := by cases s; rfl
  have hcall := plain_law (c := c) (rv := v1) (l := s.data.toList) (w := W) hl (fun w' hb => written_any hc (hz.below hb) hin) (of_laid hL) (tb_laid hL)
  rw [← e0] at hcall
  refine hcall.mono fun e W' ⟨he, hb⟩ => ?_
  subst he
  have hlt : ∀ x ∈ p0 ++ p1 ++ [] ++ [], x.block < W.heap.size := fun x hx => hW'.lt x hx
  have hlt0 : ∀ x ∈ p0, x.block < W.heap.size := fun x hx => hlt x (by simp [hx])
  have hlt1 : ∀ x ∈ p1, x.block < W.heap.size := fun x hx => hlt x (by simp [hx])
  have e1 : ∀ a b c : DataW H, Rows.plainSpec.fn H ([a, b, c] ++ []) = { results := [.lit (.bool true)], args := [a, b, c] } := fun a b c => by simp [Rows.plainSpec]
  refine ⟨_, rfl, _, _, _, [], p0 ++ (p1 ++ []), [], hW', ?_, ?_, ?_, hb.frame _, fun h => by cases h⟩
  · rw [e1]; exact trodAll_mk1 (shut_bool Tryz.underlying4 true)
  · rw [e1]
    exact trodAll_mk3 (Below.trod laid_out (by kernel_rfl) (of_decide_eq_true (by kernel_rfl)) h0k hb hlt0) (Below.trod laid_out (by kernel_rfl) (of_decide_eq_true (by kernel_rfl)) h1k hb hlt1) (Below.trod laid_out (by kernel_rfl) (of_decide_eq_true (by kernel_rfl)) h2k hb (fun x hx => absurd hx List.not_mem_nil))
  · rw [e1]; rfl

theorem plain_row : Rows.PlainSaid :=
  OpenClaim.holds_of_wide 5 Tryz.f5 rfl rfl rfl rfl rfl rfl rfl ⟨rfl, rfl, rfl, rfl, rfl⟩ rfl rfl rfl rfl rfl (by kernel_rfl) Tryz.func5 (by kernel_rfl)
    (of_decide_eq_true (by kernel_rfl)) (by unfold Func.isWrapper; first | (rw [if_pos (by decide +kernel)]; kernel_rfl) | (rw [if_neg (by decide +kernel)]; exact ⟨rfl, rfl⟩))
    (fun os started H enc _ => plain_lifted os started H enc)

theorem plain_card : Rows.PlainCardSaid :=
  Claim7.holds_tied_plain_at .later [] [.data, .data, .data, .sentinel, .sentinel, .data] true (true, "40ff3d9dad59f5f98b55aa2d57afbf509805ca6e9e570cc5824883c58f705c11") true
    plain_row (fun _ h => by cases h) (by kernel_rfl) (fun _ h => by cases h) plain_row_tie rfl ⟨rfl, rfl⟩ (by kernel_rfl) rfl
    (fun f fn hf hfn => by
      obtain rfl : f = 5 := Option.some.inj ((show Tryz.prog.funcNamed "gavel/gavelkeep.Plain" = some 5 by kernel_rfl).symm.trans hf) |>.symm
      obtain rfl : fn = Tryz.f5 := (Option.some.inj (Tryz.func5.symm.trans hfn)).symm
      exact ⟨by kernel_rfl, fun j t ht => by
        rw [Tryz.params5] at ht
        have h3 : t = 37 ∨ t = 38 ∨ t = 9 := by
          rcases j with _ | _ | _ | j
          · left; simpa using ht.symm
          · right; left; simpa using ht.symm
          · right; right; simpa using ht.symm
          · simp at ht
        rcases h3 with rfl | rfl | rfl
        · exact (show Tryz.prog.wantsStandIn 37 = false by kernel_rfl)
        · exact (show Tryz.prog.wantsStandIn 38 = false by kernel_rfl)
        · exact (show Tryz.prog.wantsStandIn 9 = false by kernel_rfl)⟩)
    (by kernel_rfl)
#print axioms plain_card
end Go.Proofs.YtfkdailfcmnjlaaGreatDoor
