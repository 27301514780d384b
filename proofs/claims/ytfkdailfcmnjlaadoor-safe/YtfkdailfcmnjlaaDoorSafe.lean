/-
  Proved: for every text of bytes and every scene, gavelkeep.Safe answers true (no code goes wrong: what Load takes judges any event, in no more steps than it has bytes, and again the same), and the arguments read as they did; where the listed package-level variable begins as the program's text lays it.
-/
import Derived.Test.YtfkdailfcmnjlaaDoorJA
import Derived.Test.YtfkdailfcmnjlaaDoorJB
import Derived.Test.YtfkdailfcmnjlaaDoorJC
import Derived.Test.YtfkdailfcmnjlaaDoorJD
import Derived.Test.YtfkdailfcmnjlaaDoorJE
import Derived.Test.YtfkdailfcmnjlaaDoorJF
import Derived.Test.YtfkdailfcmnjlaaDoorJG
import Derived.Test.YtfkdailfcmnjlaaDoorJH
import Derived.Test.YtfkdailfcmnjlaaDoorJI
import Derived.Test.YtfkdailfcmnjlaaDoorJJ
import Derived.Test.YtfkdailfcmnjlaaDoorJK
import Derived.Test.YtfkdailfcmnjlaaDoorJL
import Derived.Test.YtfkdailfcmnjlaaDoorJM
import Derived.Test.YtfkdailfcmnjlaaDoorJN
import Derived.Test.YtfkdailfcmnjlaaDoorJO
import Derived.Test.YtfkdailfcmnjlaaDoorJP
import Derived.Test.YtfkdailfcmnjlaaDoorJQ
import Derived.Test.YtfkdailfcmnjlaaDoorJR
import Derived.Test.YtfkdailfcmnjlaaDoorRows
import Derived.Test.YtfkdailfcmnjlaaDoorCards
import Derived.Test.YtfkdailfcmnjlaaDoorTie
import Derived.ProofKit
import Derived.LaidMore
import Derived.OpenShut
import Derived.Stop.Joined
import Derived.SevenTiedAt
import Derived.Carry
set_option linter.unusedVariables false
set_option linter.unusedSimpArgs false
namespace Go.Proofs.YtfkdailfcmnjlaaDoor
open Go Go.ChangeShapes Go.WideShapes Go.ChangeAt Go.WideMaps Go.WideElems Go.RowKit Go.Deep Go.Joins
set_option maxRecDepth 100000

theorem laid_out : laidOutB Tryd.prog = true := by kernel_rfl
theorem safe_lifted (os : Os) (started : os.Started) (H : Type) (enc : TypeId × Value → H) :
    ReturnsInHanded {} Tryd.checked os 4 .any (fun w args => (Rows.safeSpec.pre enc Tryd.prog Tryd.f4 [] false w args ∧ laidMetH Tryd.prog laidE w) ∧ sizedMet enc Tryd.prog Tryd.f4 (OpenSpec.ofChange Rows.safeSpec) false w args)
      (Rows.safeSpec.post enc Tryd.prog Tryd.f4 false true false false) := by
  refine returnsInHanded_of_change_and (C := Tryd.checked) (X := fun w _ => laidMetH Tryd.prog laidE w) (fun _ _ _ hh h => h.of_heap hh) own started (by kernel_rfl) Tryd.func4
    (ChangeSpec.witness_shaped (enc := enc) (C := Tryd.checked) (os := os) (X := fun w _ => laidMetH Tryd.prog laidE w) false (World.doorLaid Tryd.prog 400 os) #[.string ⟨#[]⟩, .agg #[.int .i64 0, .int .i64 0, .int .i64 0, .int .i64 0, .int .i64 0, .int .i64 0, .int .i64 0, .int .i64 0, .int .i64 0, .int .i64 0, .int .i64 0, .bool false, .bool false, .bool false, .int .i64 0, .bool false]] 8 rfl (World.shaped_of_RefB (by kernel_rfl) (by kernel_rfl)) (by kernel_rfl) (by kernel_rfl) (by kernel_rfl) (door_metE os _)) ?_
  intro W base args ds gs before hval0 hW _ hsz hL _
  have hval : ∀ (j : Nat) t v, Tryd.f4.params[j]? = some t → args[j]? = some v → Value.okWide Tryd.prog W .any base t v := hval0
  have hW' := hW
  obtain ⟨p, q, hA0, hV, rfl, hfz, hnd⟩ := hW
  have hA : DataW.TrodAll enc Tryd.prog W 0 (fun _ => true) true Tryd.f4.params.toList args.toList ds p := hA0
  rw [Tryd.params4] at hA hval
  obtain ⟨v0, v1, d0, d1, p0, p1, rfl, rfl, rfl, h0, h1⟩ := trodAll_two hA
  obtain ⟨rfl, rfl⟩ := trodVars_none hV
  have h0k := h0
  have h1k := h1
  obtain ⟨s, rfl, rfl, rfl, hs⟩ := Go.ChangeMaps.open_string Tryd.underlying9 (hval 0 9 v0 rfl rfl) h0
  obtain ⟨c, rfl, hc⟩ := open_scene (hval 1 42 v1 rfl rfl) h1
  have hcall := safe_any s.data.toList hc (of_laidE hL)
  refine hcall.mono fun e W' ⟨he, hb⟩ => ?_
  subst he
  have hlt : ∀ x ∈ [] ++ p1 ++ [], x.block < W.heap.size := fun x hx => hW'.lt x hx
  have hlt1 : ∀ x ∈ p1, x.block < W.heap.size := fun x hx => hlt x (by simp only [List.nil_append, List.append_nil]; exact hx)
  have e1 : ∀ a b : DataW H, Rows.safeSpec.fn H ([a, b] ++ []) = { results := [.lit (.bool true)], args := [a, b] } := fun a b => by simp [Rows.safeSpec]
  refine ⟨_, rfl, _, _, _, [], [] ++ p1, [], hW', ?_, ?_, ?_, hb.frame _, fun h => by cases h⟩
  · rw [e1]; exact trodAll_mk1 (shut_bool Tryd.underlying4 true)
  · rw [e1]
    exact trodAll_mk2 (Below.trod laid_out (by kernel_rfl) (of_decide_eq_true (by kernel_rfl)) h0k hb (fun x hx => absurd hx List.not_mem_nil)) (Below.trod laid_out (by kernel_rfl) (of_decide_eq_true (by kernel_rfl)) h1k hb hlt1)
  · rw [e1]; rfl

theorem safe_row : Rows.SafeSaid :=
  OpenClaim.holds_of_wide 4 Tryd.f4 rfl rfl rfl rfl rfl rfl rfl ⟨rfl, rfl, rfl, rfl, rfl⟩ rfl rfl rfl rfl rfl (by kernel_rfl) Tryd.func4 (by kernel_rfl)
    (of_decide_eq_true (by kernel_rfl)) (by unfold Func.isWrapper; first | (rw [if_pos (by decide +kernel)]; kernel_rfl) | (rw [if_neg (by decide +kernel)]; exact ⟨rfl, rfl⟩))
    (fun os started H enc _ => safe_lifted os started H enc)

theorem safe_card : Rows.SafeCardSaid :=
  Claim7.holds_tied_plain_at .later [] [.wider] true (true, "cca7b3133f795d42c827912da9140280cc37873220cc4e6fed47efcec7a3d008") false
    safe_row (fun _ h => by cases h) (by kernel_rfl) (fun _ h => by cases h) safe_row_tie rfl ⟨rfl, rfl⟩ (by kernel_rfl) rfl
    (fun f fn hf hfn => by
      obtain rfl : f = 4 := Option.some.inj ((show Tryd.prog.funcNamed "gavel/gavelkeep.Safe" = some 4 by kernel_rfl).symm.trans hf) |>.symm
      obtain rfl : fn = Tryd.f4 := (Option.some.inj (Tryd.func4.symm.trans hfn)).symm
      exact ⟨by kernel_rfl, fun j t ht => by
        rw [Tryd.params4] at ht
        have h3 : t = 9 ∨ t = 42 := by
          rcases j with _ | _ | j
          · left; simpa using ht.symm
          · right; simpa using ht.symm
          · simp at ht
        rcases h3 with rfl | rfl
        · exact (show Tryd.prog.wantsStandIn 9 = false by kernel_rfl)
        · exact (show Tryd.prog.wantsStandIn 42 = false by kernel_rfl)⟩)
    (by kernel_rfl)
#print axioms safe_card
end Go.Proofs.YtfkdailfcmnjlaaDoor
