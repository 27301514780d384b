/-
  Proved: for all bytes, every event and every state, gavellaw.Judges answers true (the program's Load takes just the codes that the document's takes, with its error, and what both have judges the same: the verdict and the steps; the state's lists, with their spare room, are as they were), and the arguments read as they did; where the listed package-level variable begins as the program's text lays it.
-/
import Derived.Test.YtfkdailfcmnjlaaDoorJA
import Derived.Test.YtfkdailfcmnjlaaDoorJB
import Derived.Test.YtfkdailfcmnjlaaDoorJC
import Derived.Test.YtfkdailfcmnjlaaDoorJD
import Derived.Test.YtfkdailfcmnjlaaDoorJE
import Derived.Test.YtfkdailfcmnjlaaDoorJF
import Derived.Test.YtfkdailfcmnjlaaDoorJG
import Derived.Test.YtfkdailfcmnjlaaDoorJH
import Derived.Test.YtfkdailfcmnjlaaDoorJI
import Derived.Test.YtfkdailfcmnjlaaDoorJJ
import Derived.Test.YtfkdailfcmnjlaaDoorJK
import Derived.Test.YtfkdailfcmnjlaaDoorJL
import Derived.Test.YtfkdailfcmnjlaaDoorJM
import Derived.Test.YtfkdailfcmnjlaaDoorJN
import Derived.Test.YtfkdailfcmnjlaaDoorJO
import Derived.Test.YtfkdailfcmnjlaaDoorJP
import Derived.Test.YtfkdailfcmnjlaaDoorJQ
import Derived.Test.YtfkdailfcmnjlaaDoorJR
import Derived.Test.YtfkdailfcmnjlaaDoorJS
import Derived.Test.YtfkdailfcmnjlaaDoorJT
import Derived.Test.YtfkdailfcmnjlaaDoorJU
import Derived.Test.YtfkdailfcmnjlaaDoorJV
import Derived.Test.YtfkdailfcmnjlaaDoorRows
import Derived.Test.YtfkdailfcmnjlaaDoorCards
import Derived.Test.YtfkdailfcmnjlaaDoorTie
import Derived.ProofKit
import Derived.LaidMore
import Derived.OpenShut
import Derived.Stop.Joined
import Derived.SevenTiedAt
import Derived.Carry
set_option linter.unusedVariables false
set_option linter.unusedSimpArgs false
namespace Go.Proofs.YtfkdailfcmnjlaaDoor
open Go Go.ChangeShapes Go.WideShapes Go.ChangeAt Go.WideMaps Go.WideElems Go.RowKit Go.Deep Go.Joins
set_option maxRecDepth 100000

theorem reach_eq : reachBytes = 140737488351232 := rfl
theorem all_mem {l : List Nat} (h : l.all (fun n => decide (n ≤ reachBytes)) = true) : ∀ n ∈ l, n ≤ reachBytes := fun n hn => by
  rw [List.all_eq_true] at h
  simpa using h n hn
/-- The state's lists are not too long. -/
theorem state_reach {H : Type} {d0 d1 y0 y1 y2 y3 : DataW H} (h : (DataW.weightsEach Tryd.prog [9, 23, 27] [d0, d1, .agg [y0, y1, y2, y3]]).all (· ≤ reachBytes) = true) :
    (∀ el sp, y0 = .slice el sp → el.length ≤ 5900000000000) ∧ (∀ el sp, y2 = .slice el sp → el.length ≤ 5900000000000) := by
  have hm := all_mem h
  have b1 : Tryd.prog.bytesOf 77 = 24 := by kernel_rfl
  have b2 : Tryd.prog.bytesOf 79 = 24 := by kernel_rfl
  refine ⟨fun el sp e => ?_, fun el sp e => ?_⟩
  · have := hm ((el.length + sp.length) * Tryd.prog.bytesOf 77) (by
      subst e
      simp [DataW.weightsEach, DataW.weights, Tryd.underlying27, Tryd.underlying24])
    rw [b1, reach_eq] at this
    omega
  · have := hm ((el.length + sp.length) * Tryd.prog.bytesOf 79) (by
      subst e
      simp [DataW.weightsEach, DataW.weights, Tryd.underlying27, Tryd.underlying25])
    rw [b2, reach_eq] at this
    omega

theorem laid_out : laidOutB Tryd.prog = true := by kernel_rfl
theorem judges_lifted (os : Os) (started : os.Started) (H : Type) (enc : TypeId × Value → H) :
    ReturnsInHanded {} Tryd.checked os 3 .any (fun w args => (Rows.judgesSpec.pre enc Tryd.prog Tryd.f3 [] false w args ∧ laidMetH Tryd.prog laidE w) ∧ sizedMet enc Tryd.prog Tryd.f3 (OpenSpec.ofChange Rows.judgesSpec) false w args)
      (Rows.judgesSpec.post enc Tryd.prog Tryd.f3 false true false false) := by
  refine returnsInHanded_of_change_and (C := Tryd.checked) (X := fun w _ => laidMetH Tryd.prog laidE w) (fun _ _ _ hh h => h.of_heap hh) own started (by kernel_rfl) Tryd.func3
    (ChangeSpec.witness_shaped (enc := enc) (C := Tryd.checked) (os := os) (X := fun w _ => laidMetH Tryd.prog laidE w) false (World.doorLaid Tryd.prog 400 os) #[.string ⟨#[]⟩, .agg #[.string ⟨#[]⟩, .string ⟨#[]⟩, .int .i64 0, .int .i64 0, .int .i64 0], .agg #[.slice none 0 0, .int .i64 0, .slice none 0 0, .bool false]] 8 rfl (World.shaped_of_RefB (by kernel_rfl) (by kernel_rfl)) (by kernel_rfl) (by kernel_rfl) (by kernel_rfl) (door_metE os _)) ?_
  intro W base args ds gs before hval0 hW _ hsz hL _
  have hval : ∀ (j : Nat) t v, Tryd.f3.params[j]? = some t → args[j]? = some v → Value.okWide Tryd.prog W .any base t v := hval0
  have hW' := hW
  obtain ⟨p, q, hA0, hV, rfl, hfz, hnd⟩ := hW
  have hA : DataW.TrodAll enc Tryd.prog W 0 (fun _ => true) true Tryd.f3.params.toList args.toList ds p := hA0
  rw [Tryd.params3] at hA hval hsz
  obtain ⟨v0, v1, v2, d0, d1, d2, p0, p1, p2, rfl, rfl, rfl, h0, h1, h2⟩ := trodAll_three hA
  obtain ⟨rfl, rfl⟩ := trodVars_none hV
  have h0k := h0
  have h1k := h1
  have h2k := h2
  obtain ⟨s, rfl, rfl, rfl, hs⟩ := Go.ChangeMaps.open_string Tryd.underlying9 (hval 0 9 v0 rfl rfl) h0
  obtain ⟨e0, e1, e2, e3, e4, y0, y1, y2, y3, y4, n, rfl, rfl, hp1, q0, q1, q2, q3, q4⟩ := open_agg5 Tryd.underlying23 (by kernel_rfl) (by kernel_rfl) (hval 1 23 v1 rfl rfl) h1
  obtain ⟨sn, w0, _, _⟩ := DataW.trod_string Tryd.underlying9 q0
  obtain ⟨tg, w1, _, _⟩ := DataW.trod_string Tryd.underlying9 q1
  obtain ⟨wa, w2, _, wwa⟩ := DataW.trod_int Tryd.underlying3 q2
  obtain ⟨nd, w3, _, wnd⟩ := DataW.trod_int Tryd.underlying2 q3
  obtain ⟨wh, w4, _, wwh⟩ := DataW.trod_int Tryd.underlying2 q4
  simp at w0 w1 w2 w3 w4
  subst w0; subst w1; subst w2; subst w3; subst w4
  obtain ⟨a0, a1, a2, a3, z0, z1, z2, z3, m, rfl, rfl, hp2, r0, r1, r2, r3⟩ := open_agg4 Tryd.underlying27 (by kernel_rfl) (by kernel_rfl) (hval 2 27 v2 rfl rfl) h2
  obtain ⟨df, x1, _, wdf⟩ := DataW.trod_int Tryd.underlying2 r1
  obtain ⟨op, x3, _⟩ := DataW.trod_bool Tryd.underlying4 r3
  simp at x1 x3
  subst x1; subst x3
  obtain ⟨ls, P1, I1, L1⟩ := open_pairs Tryd.underlying24 Tryd.underlying77 (by kernel_rfl) rfl rfl (by kernel_rfl) (by kernel_rfl) Tryd.underlying9 Tryd.underlying2 r0
  obtain ⟨ms, P2, I2, L2⟩ := open_pairs Tryd.underlying25 Tryd.underlying79 (by kernel_rfl) rfl rfl (by kernel_rfl) (by kernel_rfl) Tryd.underlying9 Tryd.underlying3 r2
  have hr := state_reach hsz
  have hl1 : ls.length ≤ 5900000000000 := by
    rcases L1 with ⟨_, e⟩ | ⟨el, sp, e, hl⟩
    · rw [e]; simp
    · rw [← hl]; exact hr.1 el sp e
  have hl2 : ms.length ≤ 5900000000000 := by
    rcases L2 with ⟨_, e⟩ | ⟨el, sp, e, hl⟩
    · rw [e]; simp
    · rw [← hl]; exact hr.2 el sp e
  have hF := fields_T ⟨sn.data.toList, tg.data.toList, wa, nd, wh⟩ ⟨ls, df, ms, op⟩ (in64_wf wnd) (in64_wf wwh) (in64_wf wdf) I1
  have hcall := judges_any s.data.toList ⟨sn.data.toList, tg.data.toList, wa, nd, wh⟩ ⟨ls, df, ms, op⟩ W (of_laidE hL) P1 P2 hl1 hl2 (in64_wf wwa) hF
  refine hcall.mono fun e W' ⟨he, hb⟩ => ?_
  subst he
  have hlt : ∀ x ∈ [] ++ p1 ++ p2 ++ [], x.block < W.heap.size := fun x hx => hW'.lt x hx
  have hlt1 : ∀ x ∈ p1, x.block < W.heap.size := fun x hx => hlt x (by simp only [List.nil_append, List.append_nil, List.mem_append]; exact .inl hx)
  have hlt2 : ∀ x ∈ p2, x.block < W.heap.size := fun x hx => hlt x (by simp only [List.nil_append, List.append_nil, List.mem_append]; exact .inr hx)
  have e1 : ∀ a b c : DataW H, Rows.judgesSpec.fn H ([a, b, c] ++ []) = { results := [.lit (.bool true)], args := [a, b, c] } := fun a b c => by simp [Rows.judgesSpec]
  refine ⟨_, rfl, _, _, _, [], [] ++ p1 ++ p2, [], hW', ?_, ?_, ?_, hb.frame _, fun h => by cases h⟩
  · rw [e1]; exact trodAll_mk1 (shut_bool Tryd.underlying4 true)
  · rw [e1]
    exact trodAll_mk3 (Below.trod laid_out (by kernel_rfl) (of_decide_eq_true (by kernel_rfl)) h0k hb (fun x hx => absurd hx List.not_mem_nil)) (Below.trod laid_out (by kernel_rfl) (of_decide_eq_true (by kernel_rfl)) h1k hb hlt1) (Below.trod laid_out (by kernel_rfl) (of_decide_eq_true (by kernel_rfl)) h2k hb hlt2)
  · rw [e1]; rfl

theorem judges_row : Rows.JudgesSaid :=
  OpenClaim.holds_of_wide 3 Tryd.f3 rfl rfl rfl rfl rfl rfl rfl ⟨rfl, rfl, rfl, rfl, rfl⟩ rfl rfl rfl rfl rfl (by kernel_rfl) Tryd.func3 (by kernel_rfl)
    (of_decide_eq_true (by kernel_rfl)) (by unfold Func.isWrapper; first | (rw [if_pos (by decide +kernel)]; kernel_rfl) | (rw [if_neg (by decide +kernel)]; exact ⟨rfl, rfl⟩))
    (fun os started H enc _ => judges_lifted os started H enc)

theorem judges_card : Rows.JudgesCardSaid :=
  Claim7.holds_tied_plain_at .later [] [.wider] true (true, "cca7b3133f795d42c827912da9140280cc37873220cc4e6fed47efcec7a3d008") false
    judges_row (fun _ h => by cases h) (by kernel_rfl) (fun _ h => by cases h) judges_row_tie rfl ⟨rfl, rfl⟩ (by kernel_rfl) rfl
    (fun f fn hf hfn => by
      obtain rfl : f = 3 := Option.some.inj ((show Tryd.prog.funcNamed "gavel/gavellaw.Judges" = some 3 by kernel_rfl).symm.trans hf) |>.symm
      obtain rfl : fn = Tryd.f3 := (Option.some.inj (Tryd.func3.symm.trans hfn)).symm
      exact ⟨by kernel_rfl, fun j t ht => by
        rw [Tryd.params3] at ht
        have h3 : t = 9 ∨ t = 23 ∨ t = 27 := by
          rcases j with _ | _ | _ | j
          · left; simpa using ht.symm
          · right; left; simpa using ht.symm
          · right; right; simpa using ht.symm
          · simp at ht
        rcases h3 with rfl | rfl | rfl
        · exact (show Tryd.prog.wantsStandIn 9 = false by kernel_rfl)
        · exact (show Tryd.prog.wantsStandIn 23 = false by kernel_rfl)
        · exact (show Tryd.prog.wantsStandIn 27 = false by kernel_rfl)⟩)
    (by kernel_rfl)
#print axioms judges_card
end Go.Proofs.YtfkdailfcmnjlaaDoor
