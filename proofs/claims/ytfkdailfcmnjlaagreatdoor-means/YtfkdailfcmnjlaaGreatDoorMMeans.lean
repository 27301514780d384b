/-
  Proved: for every text, event and state, gavellaw.Means answers true (the program's Mean gives the document's verdict and error, and leaves the state's lists, with their spare room, as they were), and the arguments read as they did; where the listed package-level variables begin as the program's text lays them.
-/
import Derived.Test.YtfkdailfcmnjlaaGreatDoorMK
import Derived.Test.YtfkdailfcmnjlaaGreatDoorRows
import Derived.Test.YtfkdailfcmnjlaaGreatDoorCards
import Derived.Test.YtfkdailfcmnjlaaGreatDoorTie
import Derived.ProofKit
import Derived.LaidMore
import Derived.OpenShut
import Derived.Stop.Joined
import Derived.SevenTiedAt
import Derived.Carry
set_option linter.unusedVariables false
set_option linter.unusedSimpArgs false
namespace Go.Proofs.YtfkdailfcmnjlaaGreatDoor
open Go Go.ChangeShapes Go.WideShapes Go.ChangeAt Go.WideMaps Go.WideElems Go.RowKit Go.Deep Go.Joins
set_option maxRecDepth 100000

theorem reach_eq : reachBytes = 140737488351232 := rfl
theorem all_mem {l : List Nat} (h : l.all (fun n => decide (n ≤ reachBytes)) = true) : ∀ n ∈ l, n ≤ reachBytes := fun n hn => by
  rw [List.all_eq_true] at h
  simpa using h n hn
/-- The state's lists are not too long. -/
theorem state_reach {H : Type} {d0 d1 y0 y1 y2 y3 : DataW H} (h : (DataW.weightsEach Tryz.prog [9, 46, 50] [d0, d1, .agg [y0, y1, y2, y3]]).all (· ≤ reachBytes) = true) :
    (∀ el sp, y0 = .slice el sp → el.length ≤ 5900000000000) ∧ (∀ el sp, y2 = .slice el sp → el.length ≤ 5900000000000) := by
  have hm := all_mem h
  have b1 : Tryz.prog.bytesOf 108 = 24 := by kernel_rfl
  have b2 : Tryz.prog.bytesOf 110 = 24 := by kernel_rfl
  refine ⟨fun el sp e => ?_, fun el sp e => ?_⟩
  · have := hm ((el.length + sp.length) * Tryz.prog.bytesOf 108) (by
      subst e
      simp [DataW.weightsEach, DataW.weights, Tryz.underlying50, Tryz.underlying47])
    rw [b1, reach_eq] at this
    omega
  · have := hm ((el.length + sp.length) * Tryz.prog.bytesOf 110) (by
      subst e
      simp [DataW.weightsEach, DataW.weights, Tryz.underlying50, Tryz.underlying48])
    rw [b2, reach_eq] at this
    omega

theorem laid_out : laidOutB Tryz.prog = true := by kernel_rfl
theorem means_lifted (os : Os) (started : os.Started) (H : Type) (enc : TypeId × Value → H) :
    ReturnsInHanded {} Tryz.checked os 6 .any (fun w args => (Rows.meansSpec.pre enc Tryz.prog Tryz.f6 [] false w args ∧ laidMetH Tryz.prog laidL w) ∧ sizedMet enc Tryz.prog Tryz.f6 (OpenSpec.ofChange Rows.meansSpec) false w args)
      (Rows.meansSpec.post enc Tryz.prog Tryz.f6 false true false false) := by
  refine returnsInHanded_of_change_and (C := Tryz.checked) (X := fun w _ => laidMetH Tryz.prog laidL w) (fun _ _ _ hh h => h.of_heap hh) own started (by kernel_rfl) Tryz.func6
    (ChangeSpec.witness_shaped (enc := enc) (C := Tryz.checked) (os := os) (X := fun w _ => laidMetH Tryz.prog laidL w) false (World.doorLaid Tryz.prog 400 os) #[.string ⟨#[]⟩, .agg #[.string ⟨#[]⟩, .string ⟨#[]⟩, .int .i64 0, .int .i64 0, .int .i64 0], .agg #[.slice none 0 0, .int .i64 0, .slice none 0 0, .bool false]] 8 rfl (World.shaped_of_RefB (by kernel_rfl) (by kernel_rfl)) (by kernel_rfl) (by kernel_rfl) (by kernel_rfl) (door_met os _)) ?_
  intro W base args ds gs before hval0 hW _ hsz hL _
  have hval : ∀ (j : Nat) t v, Tryz.f6.params[j]? = some t → args[j]? = some v → Value.okWide Tryz.prog W .any base t v := hval0
  have hW' := hW
  obtain ⟨p, q, hA0, hV, rfl, hfz, hnd⟩ := hW
  have hA : DataW.TrodAll enc Tryz.prog W 0 (fun _ => true) true Tryz.f6.params.toList args.toList ds p := hA0
  rw [Tryz.params6] at hA hval hsz
  obtain ⟨v0, v1, v2, d0, d1, d2, p0, p1, p2, rfl, rfl, rfl, h0, h1, h2⟩ := trodAll_three hA
  obtain ⟨rfl, rfl⟩ := trodVars_none hV
  have h0k := h0
  have h1k := h1
  have h2k := h2
  obtain ⟨s, rfl, rfl, rfl, hs⟩ := Go.ChangeMaps.open_string Tryz.underlying9 (hval 0 9 v0 rfl rfl) h0
  obtain ⟨e0, e1, e2, e3, e4, y0, y1, y2, y3, y4, n, rfl, rfl, hp1, q0, q1, q2, q3, q4⟩ := open_agg5 Tryz.underlying46 (by kernel_rfl) (by kernel_rfl) (hval 1 46 v1 rfl rfl) h1
  obtain ⟨sn, w0, _, _⟩ := DataW.trod_string Tryz.underlying9 q0
  obtain ⟨tg, w1, _, _⟩ := DataW.trod_string Tryz.underlying9 q1
  obtain ⟨wa, w2, _, wwa⟩ := DataW.trod_int Tryz.underlying3 q2
  obtain ⟨nd, w3, _, wnd⟩ := DataW.trod_int Tryz.underlying2 q3
  obtain ⟨wh, w4, _, wwh⟩ := DataW.trod_int Tryz.underlying2 q4
  simp at w0 w1 w2 w3 w4
  subst w0; subst w1; subst w2; subst w3; subst w4
  obtain ⟨a0, a1, a2, a3, z0, z1, z2, z3, m, rfl, rfl, hp2, r0, r1, r2, r3⟩ := open_agg4 Tryz.underlying50 (by kernel_rfl) (by kernel_rfl) (hval 2 50 v2 rfl rfl) h2
  obtain ⟨df, x1, _, wdf⟩ := DataW.trod_int Tryz.underlying2 r1
  obtain ⟨op, x3, _⟩ := DataW.trod_bool Tryz.underlying4 r3
  simp at x1 x3
  subst x1; subst x3
  obtain ⟨ls, P1, I1, L1⟩ := open_pairs Tryz.underlying47 Tryz.underlying108 (by kernel_rfl) rfl rfl (by kernel_rfl) (by kernel_rfl) Tryz.underlying9 Tryz.underlying2 r0
  obtain ⟨ms, P2, I2, L2⟩ := open_pairs Tryz.underlying48 Tryz.underlying110 (by kernel_rfl) rfl rfl (by kernel_rfl) (by kernel_rfl) Tryz.underlying9 Tryz.underlying3 r2
  have hWd := of_laid hL
  have hsl : s.data.toList.length ≤ maxLen := by rw [Array.length_toList]; exact hs
  have hr := state_reach hsz
  have hl1 : ls.length ≤ 5900000000000 := by
    rcases L1 with ⟨_, e⟩ | ⟨el, sp, e, hl⟩
    · rw [e]; simp
    · rw [← hl]; exact hr.1 el sp e
  have hl2 : ms.length ≤ 5900000000000 := by
    rcases L2 with ⟨_, e⟩ | ⟨el, sp, e, hl⟩
    · rw [e]; simp
    · rw [← hl]; exact hr.2 el sp e
  have hF := fields_ok ⟨sn.data.toList, tg.data.toList, wa, nd, wh⟩ ⟨ls, df, ms, op⟩ (in64_wf wnd) (in64_wf wwh) (in64_wf wdf) I1
  have hcall := means_any s.data.toList ⟨sn.data.toList, tg.data.toList, wa, nd, wh⟩ ⟨ls, df, ms, op⟩ W hWd hsl P1 P2 hl1 hl2 (in64_wf wwa) hF
  refine hcall.mono fun e W' ⟨he, hb⟩ => ?_
  subst he
  have hlt : ∀ x ∈ [] ++ p1 ++ p2 ++ [], x.block < W.heap.size := fun x hx => hW'.lt x hx
  have hlt1 : ∀ x ∈ p1, x.block < W.heap.size := fun x hx => hlt x (by simp only [List.nil_append, List.append_nil, List.mem_append]; exact .inl hx)
  have hlt2 : ∀ x ∈ p2, x.block < W.heap.size := fun x hx => hlt x (by simp only [List.nil_append, List.append_nil, List.mem_append]; exact .inr hx)
  have e1 : ∀ a b c : DataW H, Rows.meansSpec.fn H ([a, b, c] ++ []) = { results := [.lit (.bool true)], args := [a, b, c] } := fun a b c => by simp [Rows.meansSpec]
  refine ⟨_, rfl, _, _, _, [], [] ++ p1 ++ p2, [], hW', ?_, ?_, ?_, hb.frame _, fun h => by cases h⟩
  · rw [e1]; exact trodAll_mk1 (shut_bool Tryz.underlying4 true)
  · rw [e1]
    exact trodAll_mk3 (Below.trod laid_out (by kernel_rfl) (of_decide_eq_true (by kernel_rfl)) h0k hb (fun x hx => absurd hx List.not_mem_nil)) (Below.trod laid_out (by kernel_rfl) (of_decide_eq_true (by kernel_rfl)) h1k hb hlt1) (Below.trod laid_out (by kernel_rfl) (of_decide_eq_true (by kernel_rfl)) h2k hb hlt2)
  · rw [e1]; rfl

theorem means_row : Rows.MeansSaid :=
  OpenClaim.holds_of_wide 6 Tryz.f6 rfl rfl rfl rfl rfl rfl rfl ⟨rfl, rfl, rfl, rfl, rfl⟩ rfl rfl rfl rfl rfl (by kernel_rfl) Tryz.func6 (by kernel_rfl)
    (of_decide_eq_true (by kernel_rfl)) (by unfold Func.isWrapper; first | (rw [if_pos (by decide +kernel)]; kernel_rfl) | (rw [if_neg (by decide +kernel)]; exact ⟨rfl, rfl⟩))
    (fun os started H enc _ => means_lifted os started H enc)

theorem means_card : Rows.MeansCardSaid :=
  Claim7.holds_tied_plain_at .later [] [.data, .data, .data, .sentinel, .sentinel, .data] true (true, "40ff3d9dad59f5f98b55aa2d57afbf509805ca6e9e570cc5824883c58f705c11") true
    means_row (fun _ h => by cases h) (by kernel_rfl) (fun _ h => by cases h) means_row_tie rfl ⟨rfl, rfl⟩ (by kernel_rfl) rfl
    (fun f fn hf hfn => by
      obtain rfl : f = 6 := Option.some.inj ((show Tryz.prog.funcNamed "gavel/gavellaw.Means" = some 6 by kernel_rfl).symm.trans hf) |>.symm
      obtain rfl : fn = Tryz.f6 := (Option.some.inj (Tryz.func6.symm.trans hfn)).symm
      exact ⟨by kernel_rfl, fun j t ht => by
        rw [Tryz.params6] at ht
        have h3 : t = 9 ∨ t = 46 ∨ t = 50 := by
          rcases j with _ | _ | _ | j
          · left; simpa using ht.symm
          · right; left; simpa using ht.symm
          · right; right; simpa using ht.symm
          · simp at ht
        rcases h3 with rfl | rfl | rfl
        · exact (show Tryz.prog.wantsStandIn 9 = false by kernel_rfl)
        · exact (show Tryz.prog.wantsStandIn 46 = false by kernel_rfl)
        · exact (show Tryz.prog.wantsStandIn 50 = false by kernel_rfl)⟩)
    (by kernel_rfl)
#print axioms means_card
end Go.Proofs.YtfkdailfcmnjlaaGreatDoor
