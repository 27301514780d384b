/-
  Proved: for every text, number of passes, event and state, gavellaw.Compiles answers true (the program's Compile gives the document's error and place; what it gives of a policy is a code by the document, not too long, that judges as the policy means, is the same of the policy's plain form and of the passes' last four bits, and that the program loads and judges as the document does), and the arguments read as they did; where the listed package-level variables begin as the program's text lays them.
-/
import Derived.Test.YtfkdailfcmnjlaaGreatDoorCompiles01
import Derived.Test.YtfkdailfcmnjlaaGreatDoorCompiles02
import Derived.Test.YtfkdailfcmnjlaaGreatDoorCompiles03
import Derived.Test.YtfkdailfcmnjlaaGreatDoorCompiles04
import Derived.Test.YtfkdailfcmnjlaaGreatDoorCompiles05
import Derived.Test.YtfkdailfcmnjlaaGreatDoorCompiles06
import Derived.Test.YtfkdailfcmnjlaaGreatDoorCompiles07
import Derived.Test.YtfkdailfcmnjlaaGreatDoorCompiles08
import Derived.Test.YtfkdailfcmnjlaaGreatDoorCompiles09
import Derived.Test.YtfkdailfcmnjlaaGreatDoorCompiles10
import Derived.Test.YtfkdailfcmnjlaaGreatDoorCompiles11
import Derived.Test.YtfkdailfcmnjlaaGreatDoorCompiles12
import Derived.Test.YtfkdailfcmnjlaaGreatDoorCompiles13
import Derived.Test.YtfkdailfcmnjlaaGreatDoorCompiles14
import Derived.Test.YtfkdailfcmnjlaaGreatDoorCompiles15
import Derived.Test.YtfkdailfcmnjlaaGreatDoorCompiles16
import Derived.Test.YtfkdailfcmnjlaaGreatDoorCompiles17
import Derived.Test.YtfkdailfcmnjlaaGreatDoorCompiles18
import Derived.Test.YtfkdailfcmnjlaaGreatDoorCompiles19
import Derived.Test.YtfkdailfcmnjlaaGreatDoorCompiles20
import Derived.Test.YtfkdailfcmnjlaaGreatDoorCompiles21
import Derived.Test.YtfkdailfcmnjlaaGreatDoorCompiles22
import Derived.Test.YtfkdailfcmnjlaaGreatDoorCompiles23
import Derived.Test.YtfkdailfcmnjlaaGreatDoorCompiles24
import Derived.Test.YtfkdailfcmnjlaaGreatDoorCompiles25
import Derived.Test.YtfkdailfcmnjlaaGreatDoorCompiles26
import Derived.Test.YtfkdailfcmnjlaaGreatDoorCompiles27
import Derived.Test.YtfkdailfcmnjlaaGreatDoorCompiles28
import Derived.Test.YtfkdailfcmnjlaaGreatDoorCompiles29
import Derived.Test.YtfkdailfcmnjlaaGreatDoorCompiles30
import Derived.Test.YtfkdailfcmnjlaaGreatDoorCompiles31
import Derived.Test.YtfkdailfcmnjlaaGreatDoorCompiles32
import Derived.Test.YtfkdailfcmnjlaaGreatDoorCompiles33
import Derived.Test.YtfkdailfcmnjlaaGreatDoorCompiles34
import Derived.Test.YtfkdailfcmnjlaaGreatDoorCompiles35
import Derived.Test.YtfkdailfcmnjlaaGreatDoorCompiles36
import Derived.Test.YtfkdailfcmnjlaaGreatDoorCompiles37
import Derived.Test.YtfkdailfcmnjlaaGreatDoorCompiles38
import Derived.Test.YtfkdailfcmnjlaaGreatDoorCompiles39
import Derived.Test.YtfkdailfcmnjlaaGreatDoorCompiles40
import Derived.Test.YtfkdailfcmnjlaaGreatDoorCompiles41
import Derived.Test.YtfkdailfcmnjlaaGreatDoorCompiles42
import Derived.Test.YtfkdailfcmnjlaaGreatDoorCompiles43
import Derived.Test.YtfkdailfcmnjlaaGreatDoorCompiles44
import Derived.Test.YtfkdailfcmnjlaaGreatDoorCompiles45
import Derived.Test.YtfkdailfcmnjlaaGreatDoorCompiles46
import Derived.Test.YtfkdailfcmnjlaaGreatDoorCompiles47
import Derived.Test.YtfkdailfcmnjlaaGreatDoorCompiles48
import Derived.Test.YtfkdailfcmnjlaaGreatDoorCompiles49
import Derived.Test.YtfkdailfcmnjlaaGreatDoorCompiles50
import Derived.Test.YtfkdailfcmnjlaaGreatDoorCompiles51
import Derived.Test.YtfkdailfcmnjlaaGreatDoorCompiles52
import Derived.Test.YtfkdailfcmnjlaaGreatDoorCompiles53
import Derived.Test.YtfkdailfcmnjlaaGreatDoorCompiles54
import Derived.Test.YtfkdailfcmnjlaaGreatDoorCompiles55
import Derived.Test.YtfkdailfcmnjlaaGreatDoorCompiles56
import Derived.Test.YtfkdailfcmnjlaaGreatDoorCompiles57
import Derived.Test.YtfkdailfcmnjlaaGreatDoorCompiles58
import Derived.Test.YtfkdailfcmnjlaaGreatDoorCompiles59
import Derived.Test.YtfkdailfcmnjlaaGreatDoorCompiles60
import Derived.Test.YtfkdailfcmnjlaaGreatDoorCompiles61
import Derived.Test.YtfkdailfcmnjlaaGreatDoorCompiles62
import Derived.Test.YtfkdailfcmnjlaaGreatDoorCompiles63
import Derived.Test.YtfkdailfcmnjlaaGreatDoorRows
import Derived.Test.YtfkdailfcmnjlaaGreatDoorCards
import Derived.Test.YtfkdailfcmnjlaaGreatDoorTie
import Derived.Test.YtfkdailfcmnjlaaGreatDoorLays
import Derived.Test.YtfkdailfcmnjlaaGreatDoorLays2
import Derived.ProofKit
import Derived.LaidMore
import Derived.OpenShut
import Derived.Stop.Joined
import Derived.SevenTiedAt
import Derived.Carry
import Derived.WalkKit
import Derived.Deep.QuietTactic
import Derived.BigQuiet
import Derived.WalkSpells
import GoSem.Op.String
import Derived.Deep.AppendLies
import Derived.Deep.RegionHeld3
import Derived.Deep.DrawnRows
import Derived.Deep.RegionHeldLaw
import Derived.Deep.RegionLaw
import Derived.Lib.ParseIntBCases
import Derived.Deep.OwnRows
import Derived.Lib.LaidTab
import Derived.Lib.AppendIntMem
import Derived.Shelf.Strings.Builder1
import Derived.Laws.CopyOwn
import Derived.Deep.DeepCutAuto
import Derived.WalkSmall
import Derived.Lib.AppendZerosOnto
import Derived.Deep.Upon
import Derived.Deep.MidRow
import Derived.Shelf.SlicesQ.Reverse
import Derived.Ground.SlgnProg
import Derived.Lib.SliceRun
import Derived.Shelf.Abstract
import Derived.Deep.CutBlock
import Derived.Stop.LaidErr
import Derived.Deep.Strs
import Derived.Lib.SmallJoins
import Derived.Deep.SlicePairs
set_option linter.unusedVariables false
set_option linter.unusedSimpArgs false
namespace Go.Proofs.YtfkdailfcmnjlaaGreatDoor
open Go Go.ChangeShapes Go.WideShapes Go.ChangeAt Go.WideMaps Go.WideElems Go.RowKit Go.Deep Go.Joins
set_option maxRecDepth 100000

theorem reach_eq : reachBytes = 140737488351232 := rfl
theorem all_mem {l : List Nat} (h : l.all (fun n => decide (n ≤ reachBytes)) = true) : ∀ n ∈ l, n ≤ reachBytes := fun n hn => by
  rw [List.all_eq_true] at h
  simpa using h n hn
/-- The state's lists are not too long. -/
theorem state_reach {H : Type} {d0 dn d1 y0 y1 y2 y3 : DataW H} (h : (DataW.weightsEach Tryz.prog [9, 3, 46, 50] [d0, dn, d1, .agg [y0, y1, y2, y3]]).all (· ≤ reachBytes) = true) :
    (∀ el sp, y0 = .slice el sp → el.length ≤ 5900000000000) ∧ (∀ el sp, y2 = .slice el sp → el.length ≤ 5900000000000) := by
  have hm := all_mem h
  have b1 : Tryz.prog.bytesOf 108 = 24 := by kernel_rfl
  have b2 : Tryz.prog.bytesOf 110 = 24 := by kernel_rfl
  refine ⟨fun el sp e => ?_, fun el sp e => ?_⟩
  · have := hm ((el.length + sp.length) * Tryz.prog.bytesOf 108) (by
      subst e
      simp [DataW.weightsEach, DataW.weights, Tryz.underlying50, Tryz.underlying47])
    rw [b1, reach_eq] at this
    omega
  · have := hm ((el.length + sp.length) * Tryz.prog.bytesOf 110) (by
      subst e
      simp [DataW.weightsEach, DataW.weights, Tryz.underlying50, Tryz.underlying48])
    rw [b2, reach_eq] at this
    omega

theorem compiles_lifted (os : Os) (started : os.Started) (H : Type) (enc : TypeId × Value → H) :
    ReturnsInHanded {} Tryz.checked os 8 .any (fun w args => (Rows.compilesSpec.pre enc Tryz.prog Tryz.f8 [] false w args ∧ laidMetH Tryz.prog laid7 w) ∧ sizedMet enc Tryz.prog Tryz.f8 (OpenSpec.ofChange Rows.compilesSpec) false w args)
      (Rows.compilesSpec.post enc Tryz.prog Tryz.f8 false true false false) := by
  refine returnsInHanded_of_change_and (C := Tryz.checked) (X := fun w _ => laidMetH Tryz.prog laid7 w) (fun _ _ _ hh h => h.of_heap hh) own started (by kernel_rfl) Tryz.func8
    (ChangeSpec.witness_shaped (enc := enc) (C := Tryz.checked) (os := os) (X := fun w _ => laidMetH Tryz.prog laid7 w) false (World.doorLaid Tryz.prog 400 os) #[.string ⟨#[]⟩, .int .i64 0, .agg #[.string ⟨#[]⟩, .string ⟨#[]⟩, .int .i64 0, .int .i64 0, .int .i64 0], .agg #[.slice none 0 0, .int .i64 0, .slice none 0 0, .bool false]] 8 rfl (World.shaped_of_RefB (by kernel_rfl) (by kernel_rfl)) (by kernel_rfl) (by kernel_rfl) (by kernel_rfl) (door_met7 os _)) ?_
  intro W base args ds gs before hval0 hW _ hsz hL _
  have hval : ∀ (j : Nat) t v, Tryz.f8.params[j]? = some t → args[j]? = some v → Value.okWide Tryz.prog W .any base t v := hval0
  have hW' := hW
  obtain ⟨p, q, hA0, hV, rfl, hfz, hnd⟩ := hW
  have hA : DataW.TrodAll enc Tryz.prog W 0 (fun _ => true) true Tryz.f8.params.toList args.toList ds p := hA0
  rw [Tryz.params8] at hA hval hsz
  obtain ⟨v0, vn, v1, v2, d0, dn, d1, d2, p0, pn, p1, p2, rfl, rfl, rfl, h0, hn, h1, h2⟩ := trodAll_four hA
  obtain ⟨rfl, rfl⟩ := trodVars_none hV
  have h0k := h0
  have hnk := hn
  have h1k := h1
  have h2k := h2
  obtain ⟨s, rfl, rfl, rfl, hs⟩ := Go.ChangeMaps.open_string Tryz.underlying9 (hval 0 9 v0 rfl rfl) h0
  obtain ⟨n0, rfl, rfl, rfl, hn0⟩ := open_int Tryz.underlying3 (hval 1 3 vn rfl rfl) hn
  obtain ⟨e0, e1, e2, e3, e4, y0, y1, y2, y3, y4, n, rfl, rfl, hp1, q0, q1, q2, q3, q4⟩ := open_agg5 Tryz.underlying46 (by kernel_rfl) (by kernel_rfl) (hval 2 46 v1 rfl rfl) h1
  obtain ⟨sn, w0, _, _⟩ := DataW.trod_string Tryz.underlying9 q0
  obtain ⟨tg, w1, _, _⟩ := DataW.trod_string Tryz.underlying9 q1
  obtain ⟨wa, w2, _, wwa⟩ := DataW.trod_int Tryz.underlying3 q2
  obtain ⟨nd, w3, _, wnd⟩ := DataW.trod_int Tryz.underlying2 q3
  obtain ⟨wh, w4, _, wwh⟩ := DataW.trod_int Tryz.underlying2 q4
  simp at w0 w1 w2 w3 w4
  subst w0; subst w1; subst w2; subst w3; subst w4
  obtain ⟨a0, a1, a2, a3, z0, z1, z2, z3, m, rfl, rfl, hp2, r0, r1, r2, r3⟩ := open_agg4 Tryz.underlying50 (by kernel_rfl) (by kernel_rfl) (hval 3 50 v2 rfl rfl) h2
  obtain ⟨df, x1, _, wdf⟩ := DataW.trod_int Tryz.underlying2 r1
  obtain ⟨op, x3, _⟩ := DataW.trod_bool Tryz.underlying4 r3
  simp at x1 x3
  subst x1; subst x3
  obtain ⟨ls, P1, I1, L1⟩ := open_pairs Tryz.underlying47 Tryz.underlying108 (by kernel_rfl) rfl rfl (by kernel_rfl) (by kernel_rfl) Tryz.underlying9 Tryz.underlying2 r0
  obtain ⟨ms, P2, I2, L2⟩ := open_pairs Tryz.underlying48 Tryz.underlying110 (by kernel_rfl) rfl rfl (by kernel_rfl) (by kernel_rfl) Tryz.underlying9 Tryz.underlying3 r2
  have hWd := of_laid7 hL
  have hEf := ef_laid7 hL
  have hsl : s.data.toList.length ≤ maxLen := by rw [Array.length_toList]; exact hs
  have hr := state_reach hsz
  have hl1 : ls.length ≤ 5900000000000 := by
    rcases L1 with ⟨_, e⟩ | ⟨el, sp, e, hl⟩
    · rw [e]; simp
    · rw [← hl]; exact hr.1 el sp e
  have hl2 : ms.length ≤ 5900000000000 := by
    rcases L2 with ⟨_, e⟩ | ⟨el, sp, e, hl⟩
    · rw [e]; simp
    · rw [← hl]; exact hr.2 el sp e
  have hF := fields_ok ⟨sn.data.toList, tg.data.toList, wa, nd, wh⟩ ⟨ls, df, ms, op⟩ (in64_wf wnd) (in64_wf wwh) (in64_wf wdf) I1
  have hcall := compiles_any s.data.toList n0 ⟨sn.data.toList, tg.data.toList, wa, nd, wh⟩ ⟨ls, df, ms, op⟩ W hWd hEf hsl P1 P2 hl1 hl2 (in64_wf wwa) hF
  refine hcall.mono fun e W' ⟨he, hb⟩ => ?_
  subst he
  have hlt : ∀ x ∈ [] ++ [] ++ p1 ++ p2 ++ [], x.block < W.heap.size := fun x hx => hW'.lt x hx
  have hlt1 : ∀ x ∈ p1, x.block < W.heap.size := fun x hx => hlt x (by simp only [List.nil_append, List.append_nil, List.mem_append]; exact .inl hx)
  have hlt2 : ∀ x ∈ p2, x.block < W.heap.size := fun x hx => hlt x (by simp only [List.nil_append, List.append_nil, List.mem_append]; exact .inr hx)
  have e1 : ∀ a b c d : DataW H, Rows.compilesSpec.fn H ([a, b, c, d] ++ []) = { results := [.lit (.bool true)], args := [a, b, c, d] } := fun a b c d => by simp [Rows.compilesSpec]
  refine ⟨_, rfl, _, _, _, [], [] ++ [] ++ p1 ++ p2, [], hW', ?_, ?_, ?_, hb.frame _, fun h => by cases h⟩
  · rw [e1]; exact trodAll_mk1 (shut_bool Tryz.underlying4 true)
  · rw [e1]
    exact trodAll_mk4 (Below.trod laid_out7 (by kernel_rfl) (of_decide_eq_true (by kernel_rfl)) h0k hb (fun x hx => absurd hx List.not_mem_nil)) (Below.trod laid_out7 (by kernel_rfl) (of_decide_eq_true (by kernel_rfl)) hnk hb (fun x hx => absurd hx List.not_mem_nil)) (Below.trod laid_out7 (by kernel_rfl) (of_decide_eq_true (by kernel_rfl)) h1k hb hlt1) (Below.trod laid_out7 (by kernel_rfl) (of_decide_eq_true (by kernel_rfl)) h2k hb hlt2)
  · rw [e1]; rfl

set_option maxHeartbeats 40000000 in
theorem compiles_closed : joinedFacts Tryz.prog 8 Tryz.f8 Rows.compilesSpec Rows.compilesRow = true := by
  unfold joinedFacts
  simp only [Bool.and_eq_true]
  and_intros
  all_goals as_aux_lemma => kernel_rfl
theorem compiles_row : Rows.CompilesSaid :=
  OpenClaim.holds_of_wide 8 Tryz.f8 rfl rfl rfl rfl rfl rfl rfl ⟨rfl, rfl, rfl, rfl, rfl⟩ rfl rfl rfl rfl rfl (by kernel_rfl) Tryz.func8 compiles_closed
    (of_decide_eq_true (by kernel_rfl)) (by unfold Func.isWrapper; first | (rw [if_pos (by decide +kernel)]; kernel_rfl) | (rw [if_neg (by decide +kernel)]; exact ⟨rfl, rfl⟩))
    (fun os started H enc _ => compiles_lifted os started H enc)

theorem compiles_card : Rows.CompilesCardSaid :=
  Claim7.holds_tied_plain_at .later [] [.data, .data, .data, .wider, .sentinel, .sentinel, .data] true (true, "40ff3d9dad59f5f98b55aa2d57afbf509805ca6e9e570cc5824883c58f705c11") true
    compiles_row (fun _ h => by cases h) (by kernel_rfl) (fun _ h => by cases h) compiles_row_tie rfl ⟨rfl, rfl⟩ (by kernel_rfl) rfl
    (fun f fn hf hfn => by
      obtain rfl : f = 8 := Option.some.inj ((show Tryz.prog.funcNamed "gavel/gavellaw.Compiles" = some 8 by kernel_rfl).symm.trans hf) |>.symm
      obtain rfl : fn = Tryz.f8 := (Option.some.inj (Tryz.func8.symm.trans hfn)).symm
      exact ⟨by kernel_rfl, fun j t ht => by
        rw [Tryz.params8] at ht
        have h3 : t = 9 ∨ t = 3 ∨ t = 46 ∨ t = 50 := by
          rcases j with _ | _ | _ | _ | j
          · left; simpa using ht.symm
          · right; left; simpa using ht.symm
          · right; right; left; simpa using ht.symm
          · right; right; right; simpa using ht.symm
          · simp at ht
        rcases h3 with rfl | rfl | rfl | rfl
        · exact (show Tryz.prog.wantsStandIn 9 = false by kernel_rfl)
        · exact (show Tryz.prog.wantsStandIn 3 = false by kernel_rfl)
        · exact (show Tryz.prog.wantsStandIn 46 = false by kernel_rfl)
        · exact (show Tryz.prog.wantsStandIn 50 = false by kernel_rfl)⟩)
    (by kernel_rfl)
#print axioms compiles_card
end Go.Proofs.YtfkdailfcmnjlaaGreatDoor
