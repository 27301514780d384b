/-
  The program's reader: 'chain' behind a failure; 'pair'. The program's reader: every form behind a failure. The program's reader: brackets. The program's reader: 'not'. The program's reader: steps of 'if'. The program's reader: 'if'. The program's reader: every form reads as the plain reader does. The program's reader: every form reads as the plain reader does. The program's reader: states that may have failed; 'want' and a condition from such a state.
-/
import Derived.Test.YtfkdailfcmnjlaaGreatDoorTells01
import Derived.Test.YtfkdailfcmnjlaaGreatDoorTells04
import Derived.Test.YtfkdailfcmnjlaaGreatDoorTells05
import Derived.Test.YtfkdailfcmnjlaaGreatDoorTells06
import Derived.Test.YtfkdailfcmnjlaaGreatDoorTells07
import Derived.Test.YtfkdailfcmnjlaaGreatDoorTells08
import Derived.Test.YtfkdailfcmnjlaaGreatDoorTells10
import Derived.Test.YtfkdailfcmnjlaaGreatDoorTells11
import Derived.Test.YtfkdailfcmnjlaaGreatDoorTells12
import Derived.Test.YtfkdailfcmnjlaaGreatDoorTells13
import Derived.Test.YtfkdailfcmnjlaaGreatDoorLays
import Derived.WalkKit
import Derived.Deep.QuietTactic
import Derived.BigQuiet
import Derived.WalkSpells
import GoSem.Op.String
import Derived.Deep.AppendLies
import Derived.Deep.RegionHeld3
import Derived.Deep.DrawnRows
import Derived.Deep.RegionHeldLaw
import Derived.Deep.RegionLaw
import Derived.Lib.ParseIntBCases
set_option linter.unusedVariables false
set_option linter.unusedSimpArgs false
namespace Go.Proofs.YtfkdailfcmnjlaaGreatDoor
open Go Go.RowKit
set_option maxRecDepth 100000
attribute [local go_sem ↓] Go.wp_at_zero Go.wp_at_succ

/-- A form that is asked behind a failure changes nothing more. -/
def FormE (fn rb gl cl : Nat) (ts : List Tok) : Prop := ∀ (s1 : Q) (w1 : World), RR rb gl cl ts s1 w1 → s1.bad = true → s1.i = ts.length - 1 → Calls Tryz.prog fn #[.pointer (some ⟨rb, 0, none⟩)] w1 (LeftE rb gl cl ts s1 w1)

set_option maxHeartbeats 2000000 in
theorem chain_end {rb gl cl : Nat} {ts : List Tok} {s : Q} {w : World} (h : RR rb gl cl ts s w) (hb : s.bad = true) (hi : s.i = ts.length - 1) (fn : Nat) (hf : FormE fn rb gl cl ts) (hfn : Ent fn) (ks : List Nat) (hkl : ks.length ≤ 100) (hk0 : 0 ∉ ks) (jb : Nat)
    (hj : w.heap[jb]? = some (ksObj ks)) :
    Calls Tryz.prog 246 #[.pointer (some ⟨rb, 0, none⟩), mv fn rb, .slice (some ⟨jb, 0, none⟩) ks.length ks.length] w (LeftE rb gl cl ts s w) := by
  have HF1 := hf s w h hb hi
  have hj0 : jb ≠ rb := fun e => by rw [e, h.rd] at hj; simp [rdObj, ksObj] at hj
  have hjl := lt_of_get hj
  have hfn' := hfn
  unfold mv
  unfold Ent at hfn'
  have HJ : Hid _ := hj
  have HI : Hid _ := hi
  have HK0 : Hid (ks.contains 0 = false) := by
    show _ = _
    rw [Bool.eq_false_iff]; intro e; rw [List.contains_iff_mem] at e; exact hk0 e
  clear h hj hi hb hk0
  go_enter Tryz.func246, Tryz.ntmps246
  go_wp2_with fail
  refine HF1.mono ?_
  rintro e w1 ⟨b1, rfl, F1, hr1⟩
  clear HF1
  have HF1 : Hid _ := F1
  have HR1 : Hid _ := hr1
  have HK := kind_any hr1
  have HCn := contains_any ks (kindOf (tokAt ts s.i)) jb w1.drew hkl (ks_cells (by show w1.heap[jb]? = _; rw [F1.block _ hjl hj0]; exact HJ.out))
  have hz : kindOf (tokAt ts s.i) = 0 := by rw [HI.out]; exact hr1.fin
  rw [hz] at HK HCn
  rw [HK0.out] at HCn
  clear F1 hr1 hz
  go_wp2_with fail
  go_loopw [7] (fun v wr => v = .pointer (some ⟨b1, 0, none⟩) ∧ wr = w1) (fun _ _ => 0)
  case atStart => exact ⟨rfl, rfl⟩
  case round =>
    obtain ⟨rfl, rfl⟩ := hrel
    go_wp2_with fail
    refine HK.mono ?_
    rintro e w' ⟨rfl, rfl⟩
    go_wp2_with fail
    refine HCn.mono ?_
    rintro e w' ⟨rfl, rfl⟩
    go_wp2_with fail
    go_ret
    exact ⟨b1, rfl, HF1.out.drew, HR1.out.drew⟩
set_option maxHeartbeats 2000000 in
theorem pair_end {rb gl cl : Nat} {ts : List Tok} {s : Q} {w : World} (h : RR rb gl cl ts s w) (hb : s.bad = true) (hi : s.i = ts.length - 1) (fn : Nat) (hf : FormE fn rb gl cl ts) (hfn : Ent fn) (ks : List Nat) (hkl : ks.length ≤ 100) (hk0 : 0 ∉ ks) (jb : Nat)
    (hj : w.heap[jb]? = some (ksObj ks)) :
    Calls Tryz.prog 282 #[.pointer (some ⟨rb, 0, none⟩), mv fn rb, .slice (some ⟨jb, 0, none⟩) ks.length ks.length] w (LeftE rb gl cl ts s w) := by
  have HF1 := hf s w h hb hi
  have hj0 : jb ≠ rb := fun e => by rw [e, h.rd] at hj; simp [rdObj, ksObj] at hj
  have hjl := lt_of_get hj
  have hfn' := hfn
  unfold mv
  unfold Ent at hfn'
  have HJ : Hid _ := hj
  have HI : Hid _ := hi
  have HK0 : Hid (ks.contains 0 = false) := by
    show _ = _
    rw [Bool.eq_false_iff]; intro e; rw [List.contains_iff_mem] at e; exact hk0 e
  clear h hj hi hb hk0
  go_enter Tryz.func282, Tryz.ntmps282
  go_wp2_with fail
  refine HF1.mono ?_
  rintro e w1 ⟨b1, rfl, F1, hr1⟩
  clear HF1
  have HF1 : Hid _ := F1
  have HR1 : Hid _ := hr1
  have HK := kind_any hr1
  have HCn := contains_any ks (kindOf (tokAt ts s.i)) jb w1.drew hkl (ks_cells (by show w1.heap[jb]? = _; rw [F1.block _ hjl hj0]; exact HJ.out))
  have hz : kindOf (tokAt ts s.i) = 0 := by rw [HI.out]; exact hr1.fin
  rw [hz] at HK HCn
  rw [HK0.out] at HCn
  clear F1 hr1 hz
  go_wp2_with fail
  refine HK.mono ?_
  rintro e w' ⟨rfl, rfl⟩
  go_wp2_with fail
  refine HCn.mono ?_
  rintro e w' ⟨rfl, rfl⟩
  go_wp2_with fail
  go_ret
  exact ⟨b1, rfl, HF1.out.drew, HR1.out.drew⟩

set_option maxHeartbeats 4000000 in
theorem pair_any {f rb gl cl : Nat} {ts : List Tok} {s : Q} {w : World} (h : RR rb gl cl ts s w) (hW : ∀ t ∈ ts, TokW t) (hgood : s.bad = false) (fn : Nat) (hf : FormOK f fn 4 rb gl cl ts) (hfn : Ent fn) (jb : Nat)
    (hj : w.heap[jb]? = some (ksObj (joinK 3))) (L : List Pt) (r : Rd) (hP : P (f + 1) 3 ts s.i L 0 = some r) :
    Calls Tryz.prog 282 #[.pointer (some ⟨rb, 0, none⟩), mv fn rb, .slice (some ⟨jb, 0, none⟩) (joinK 3).length (joinK 3).length] w (LeftC rb gl cl ts s w r) := by
  obtain ⟨a, hPa, hra⟩ := chain_split (by unfold isChain; omega) hP
  have HF1 := hf f (Nat.le_refl _) s w L a h hgood hPa
  have hj0 : jb ≠ rb := fun e => by rw [e, h.rd] at hj; simp [rdObj, ksObj] at hj
  have hjl := lt_of_get hj
  have H1 : Hid _ := hra
  have hfn' := hfn
  unfold mv
  unfold Ent at hfn'
  have HJ : Hid _ := hj
  have HG : Hid _ := hgood
  clear hP hPa hra hj h hgood
  generalize hlen : (joinK 3).length = jl
  have HLN : Hid _ := hlen
  clear hlen
  go_enter Tryz.func282, Tryz.ntmps282
  go_wp2_with fail
  refine HF1.mono ?_
  rintro e w1 ⟨b1, rfl, F1, hL⟩
  clear HF1
  have hst : ∃ s1 : Q, RR rb gl cl ts s1 w1 ∧ ((s1 = { s with i := a.i } ∧ a.ok = true ∧ P f 13 ts a.i a.L a.top = some r ∧ CondAt a.L rb w1 a.top b1) ∨ (r.ok = false ∧ s1 = failQ ts { s with i := r.i })) := by
    rcases H1.out with ⟨ok, hp⟩ | ⟨ok, rfl⟩
    · rcases hL with ⟨_, hr, hc⟩ | ⟨hh, _⟩
      · exact ⟨_, hr, .inl ⟨rfl, ok, hp, hc⟩⟩
      · rw [ok] at hh; simp at hh
    · rcases hL with ⟨hh, _⟩ | ⟨_, hr⟩
      · rw [ok] at hh; simp at hh
      · exact ⟨_, hr, .inr ⟨ok, rfl⟩⟩
  obtain ⟨s', hr, hst⟩ := hst
  have ht := hW _ (tokAt_mem hr.lt)
  have hjr : w1.drew.heap[jb]? = some (ksObj (joinK 3)) := by show w1.heap[jb]? = _; rw [F1.block _ hjl hj0]; exact HJ.out
  have HK := kind_any hr
  have HCn := contains_any (joinK 3) (kindOf (tokAt ts s'.i)) jb w1.drew (by decide) (ks_cells hjr)
  have hji := joins_iff (n := 3) (by omega) ht
  rw [HLN.out] at HCn
  have HF : Hid _ := F1
  clear hL H1 F1
  cases hct : (joinK 3).contains (kindOf (tokAt ts s'.i)) with
  | false =>
    rw [hct] at HCn hji
    have HL : Hid (LeftC rb gl cl ts s w r (.returned (.pointer (some ⟨b1, 0, none⟩))) w1.drew) := by
      refine ⟨b1, rfl, HF.out.drew, ?_⟩
      rcases hst with ⟨hs, _, hp, hc⟩ | ⟨ok, hs⟩
      · subst hs
        cases f with
        | zero => rw [P] at hp; simp at hp
        | succ g =>
          have := loop_no (n := 3) (by unfold isChain; omega) hp hji
          subst this
          exact .inl ⟨rfl, hr.drew, hc.keep fun k _ _ _ _ => rfl⟩
      · exact .inr ⟨ok, by rw [← hs]; exact hr.drew⟩
    clear hst hct hji ht hjr hr HF
    go_wp2_with fail
    refine HK.mono ?_
    rintro e w' ⟨rfl, rfl⟩
    go_wp2_with fail
    refine HCn.mono ?_
    rintro e w' ⟨rfl, rfl⟩
    go_wp2_with fail
    go_ret
    exact HL.out
  | true =>
    rw [hct] at HCn hji
    have hk0 : kindOf (tokAt ts s'.i) ≠ 0 := fun e => by
      rw [e, List.contains_iff_mem] at hct
      have := joinK_small 3 (by omega) 0 hct; omega
    have hmore := hr.more hk0
    rcases hst with ⟨hs, _, hp, hc⟩ | ⟨ok, hs⟩
    · cases f with
      | zero => rw [P] at hp; simp at hp
      | succ g =>
        subst hs
        obtain ⟨bb, hPb, hcase⟩ := loop_yes (n := 3) (by unfold isChain; omega) hp hji
        have HJn := join_any hr.drew hmore fn b1 hfn (AfterJ rb gl cl ts { s with i := a.i } bb) (fun w2 h1 F1 => by
          refine (hf g (by omega) { s with i := a.i + 1 } w2 a.L bb h1 HG.out hPb).mono ?_
          rintro e w2 ⟨b2, h2, h3, h4⟩
          exact ⟨b2, h2, h3, h4⟩)
        have HH : Hid _ := hcase
        have HP : Hid _ := hPb
        have HCo : Hid _ := hc
        have HR : Hid _ := hr
        unfold mv at HJn
        clear hct hji ht hjr hr hcase hPb hc hp hk0
        go_wp2_with fail
        refine HK.mono ?_
        rintro e w' ⟨rfl, rfl⟩
        go_wp2_with fail
        refine HCn.mono ?_
        rintro e w' ⟨rfl, rfl⟩
        go_wp2_with fail
        refine HJn.mono ?_
        rintro e w' ⟨b2, w3, rfl, hA, F3, rfl⟩
        clear HK HCn HJn
        have HA : Hid _ := hA
        have HF3 : Hid _ := F3
        clear hA F3
        go_wp2_with fail
        go_ret
        have hB := over_below w3 (tokAt ts a.i) [b1, b2]
        rw [← joinW_over] at hB
        refine ⟨_, rfl, (HF.out.drew.trans HF3.out).trans (PF.of_below hB), ?_⟩
        rcases HA.out with ⟨ok, h3, hc3⟩ | ⟨ok, h3⟩
        · have h4 := h3.below hB
          rcases HH.out with ⟨no, _⟩ | ⟨_, ⟨_, hput⟩ | ⟨no, _⟩⟩
          · rw [ok] at no; simp at no
          · subst hput
            refine .inl ⟨rfl, h4, ?_⟩
            rw [joinW_over]
            refine over_at h3.rlt rfl (by simp) fun j hj => ?_
            have hcx := more_at ((HCo.out.pf HR.out (PF.refl rb w1).drew).pf HR.out.drew HF3.out) (P_more HP.out ok (by omega))
            match j, hj with
            | 0, _ => exact hcx
            | 1, _ => exact hc3
          · exact absurd rfl no
        · have h4 := h3.below hB
          rcases HH.out with ⟨_, rfl⟩ | ⟨yes, _⟩
          · exact .inr ⟨ok, h4⟩
          · rw [ok] at yes; simp at yes
    · exfalso
      apply hk0
      have : s'.i = ts.length - 1 := by rw [hs]; rfl
      rw [this]; exact hr.fin
end Go.Proofs.YtfkdailfcmnjlaaGreatDoor

namespace Go.Proofs.YtfkdailfcmnjlaaGreatDoor
open Go Go.RowKit
set_option maxRecDepth 100000
attribute [local go_sem ↓] Go.wp_at_zero Go.wp_at_succ

theorem ent_single : Ent 286 := enters_of Tryz.func286 (by kernel_rfl) rfl
theorem ent_bracketed : Ent 285 := enters_of Tryz.func285 (by kernel_rfl) rfl
theorem ent_one : Ent 284 := enters_of Tryz.func284 (by kernel_rfl) rfl
theorem ent_sum : Ent 283 := enters_of Tryz.func283 (by kernel_rfl) rfl
theorem ent_compared : Ent 279 := enters_of Tryz.func279 (by kernel_rfl) rfl
theorem ent_negation : Ent 278 := enters_of Tryz.func278 (by kernel_rfl) rfl
theorem ent_part : Ent 267 := enters_of Tryz.func267 (by kernel_rfl) rfl
theorem ent_both : Ent 247 := enters_of Tryz.func247 (by kernel_rfl) rfl
theorem ent_choice : Ent 215 := enters_of Tryz.func215 (by kernel_rfl) rfl
theorem ent_whether : Ent 214 := enters_of Tryz.func214 (by kernel_rfl) rfl

theorem end_kind {rb gl cl : Nat} {ts : List Tok} {s : Q} {w : World} (h : RR rb gl cl ts s w) (hi : s.i = ts.length - 1) : kindOf (tokAt ts s.i) = 0 := by rw [hi]; exact h.fin

set_option maxHeartbeats 1000000 in
theorem one_end {rb gl cl : Nat} {ts : List Tok} : FormE 284 rb gl cl ts := by
  intro s w h hb hi
  have HF := fork_no h 3 285 286 (by rw [end_kind h hi]; omega) ent_single (fun b w' => PF rb w w' ∧ RR rb gl cl ts s w') ((single_end h.drew hb hi).mono fun e w' ⟨b, h1, h2, h3⟩ => ⟨b, h1, (PF.refl rb w).drew.trans h2, h3⟩)
  unfold mv at HF
  clear h hb hi
  go_enter Tryz.func284, Tryz.ntmps284
  go_wp2_with fail
  refine HF.mono ?_
  rintro e w' ⟨b, rfl, h1, h2⟩
  clear HF
  go_wp2_with fail
  go_ret
  exact ⟨b, rfl, h1, h2⟩

set_option maxHeartbeats 1000000 in
theorem sum_end {rb gl cl : Nat} {ts : List Tok} : FormE 283 rb gl cl ts := by
  intro s w h hb hi
  have hnew : (w.alloc (ksObj [6, 7])).heap[w.heap.size]? = some (ksObj [6, 7]) := heap_alloc_new w _
  have HF := chain_end (h.alloc (ksObj [6, 7])) hb hi 284 one_end ent_one [6, 7] (by decide) (by decide) w.heap.size hnew
  unfold mv at HF
  have HA : Hid (PF rb w (w.alloc (ksObj [6, 7]))) := (PF.refl rb w).alloc _
  clear h hb hi hnew
  go_enter Tryz.func283, Tryz.ntmps283
  go_wp2_with fail
  refine HF.mono ?_
  rintro e w' ⟨b, rfl, h1, h2⟩
  clear HF
  go_wp2_with fail
  go_ret
  exact ⟨b, rfl, HA.out.trans h1, h2⟩
set_option maxHeartbeats 1000000 in
theorem compared_end {rb gl cl : Nat} {ts : List Tok} : FormE 279 rb gl cl ts := by
  intro s w h hb hi
  have hnew : (w.alloc (ksObj [8, 10, 9])).heap[w.heap.size]? = some (ksObj [8, 10, 9]) := heap_alloc_new w _
  have HF := pair_end (h.alloc (ksObj [8, 10, 9])) hb hi 283 sum_end ent_sum [8, 10, 9] (by decide) (by decide) w.heap.size hnew
  unfold mv at HF
  have HA : Hid (PF rb w (w.alloc (ksObj [8, 10, 9]))) := (PF.refl rb w).alloc _
  clear h hb hi hnew
  go_enter Tryz.func279, Tryz.ntmps279
  go_wp2_with fail
  refine HF.mono ?_
  rintro e w' ⟨b, rfl, h1, h2⟩
  clear HF
  go_wp2_with fail
  go_ret
  exact ⟨b, rfl, HA.out.trans h1, h2⟩

set_option maxHeartbeats 1000000 in
theorem part_end {rb gl cl : Nat} {ts : List Tok} : FormE 267 rb gl cl ts := by
  intro s w h hb hi
  have HF := fork_no h 19 278 279 (by rw [end_kind h hi]; omega) ent_compared (fun b w' => PF rb w w' ∧ RR rb gl cl ts s w') ((compared_end s _ h.drew hb hi).mono fun e w' ⟨b, h1, h2, h3⟩ => ⟨b, h1, (PF.refl rb w).drew.trans h2, h3⟩)
  unfold mv at HF
  clear h hb hi
  go_enter Tryz.func267, Tryz.ntmps267
  go_wp2_with fail
  refine HF.mono ?_
  rintro e w' ⟨b, rfl, h1, h2⟩
  clear HF
  go_wp2_with fail
  go_ret
  exact ⟨b, rfl, h1, h2⟩

set_option maxHeartbeats 1000000 in
theorem both_end {rb gl cl : Nat} {ts : List Tok} : FormE 247 rb gl cl ts := by
  intro s w h hb hi
  have hnew : (w.alloc (ksObj [18])).heap[w.heap.size]? = some (ksObj [18]) := heap_alloc_new w _
  have HF := chain_end (h.alloc (ksObj [18])) hb hi 267 part_end ent_part [18] (by decide) (by decide) w.heap.size hnew
  unfold mv at HF
  have HA : Hid (PF rb w (w.alloc (ksObj [18]))) := (PF.refl rb w).alloc _
  clear h hb hi hnew
  go_enter Tryz.func247, Tryz.ntmps247
  go_wp2_with fail
  refine HF.mono ?_
  rintro e w' ⟨b, rfl, h1, h2⟩
  clear HF
  go_wp2_with fail
  go_ret
  exact ⟨b, rfl, HA.out.trans h1, h2⟩

set_option maxHeartbeats 1000000 in
theorem choice_end {rb gl cl : Nat} {ts : List Tok} : FormE 215 rb gl cl ts := by
  intro s w h hb hi
  have hnew : (w.alloc (ksObj [17])).heap[w.heap.size]? = some (ksObj [17]) := heap_alloc_new w _
  have HF := chain_end (h.alloc (ksObj [17])) hb hi 247 both_end ent_both [17] (by decide) (by decide) w.heap.size hnew
  unfold mv at HF
  have HA : Hid (PF rb w (w.alloc (ksObj [17]))) := (PF.refl rb w).alloc _
  clear h hb hi hnew
  go_enter Tryz.func215, Tryz.ntmps215
  go_wp2_with fail
  refine HF.mono ?_
  rintro e w' ⟨b, rfl, h1, h2⟩
  clear HF
  go_wp2_with fail
  go_ret
  exact ⟨b, rfl, HA.out.trans h1, h2⟩

set_option maxHeartbeats 1000000 in
theorem condition_end {rb gl cl : Nat} {ts : List Tok} : FormE 152 rb gl cl ts := by
  intro s w h hb hi
  have HF := fork_no h 14 214 215 (by rw [end_kind h hi]; omega) ent_choice (fun b w' => PF rb w w' ∧ RR rb gl cl ts s w') ((choice_end s _ h.drew hb hi).mono fun e w' ⟨b, h1, h2, h3⟩ => ⟨b, h1, (PF.refl rb w).drew.trans h2, h3⟩)
  unfold mv at HF
  clear h hb hi
  go_enter Tryz.func152, Tryz.ntmps152
  go_wp2_with fail
  refine HF.mono ?_
  rintro e w' ⟨b, rfl, h1, h2⟩
  clear HF
  go_wp2_with fail
  go_ret
  exact ⟨b, rfl, h1, h2⟩
end Go.Proofs.YtfkdailfcmnjlaaGreatDoor

namespace Go.Proofs.YtfkdailfcmnjlaaGreatDoor
open Go Go.RowKit
set_option maxRecDepth 100000
attribute [local go_sem ↓] Go.wp_at_zero Go.wp_at_succ

/-- 'want' with kinds that a variadic call lays. -/
theorem want_new {rb gl cl : Nat} {ts : List Tok} {s : Q} {w : World} (h : RR rb gl cl ts s w) (ks : List Nat) (hl : ks.length ≤ 100) (h0 : 0 ∉ ks) :
    Calls Tryz.prog 151 #[.pointer (some ⟨rb, 0, none⟩), .slice (some ⟨w.heap.size, 0, none⟩) ks.length ks.length] (w.alloc (ksObj ks)) fun e w' => e = .returned (wantV ts s ks) ∧ RR rb gl cl ts (wantQ ts s ks) w' ∧ PF rb w w' :=
  (want_any (h.alloc (ksObj ks)) ks w.heap.size hl h0 (ks_cells (heap_alloc_new w _))).mono fun e w' ⟨h1, h2, h3⟩ => ⟨h1, h2, ((PF.refl rb w).alloc _).trans h3⟩
theorem wantQ_yes {ts : List Tok} {s : Q} {ks : List Nat} (h : ks.contains (kindOf (tokAt ts s.i)) = true) : wantQ ts s ks = { s with i := s.i + 1 } := by unfold wantQ; rw [if_pos h]
theorem wantQ_no {ts : List Tok} {s : Q} {ks : List Nat} (h : ks.contains (kindOf (tokAt ts s.i)) = false) : wantQ ts s ks = failQ ts s := by unfold wantQ; rw [h]; rfl
theorem failQ_twice (ts : List Tok) (s : Q) : failQ ts (failQ ts s) = failQ ts s := by unfold failQ; simp
theorem one_contains (k x : Nat) : [k].contains x = decide (x = k) := by
  rw [Bool.eq_iff_iff, List.contains_iff_mem]; simp

set_option maxHeartbeats 2000000 in
theorem bracketed_any {f rb gl cl : Nat} {ts : List Tok} {s : Q} {w : World} (hf : FormOK f 152 6 rb gl cl ts) (h : RR rb gl cl ts s w) (hW : ∀ t ∈ ts, TokW t) (hgood : s.bad = false) (hk : kindOf (tokAt ts s.i) = 3) {g : Nat} (hg : g ≤ f) {L : List Pt} {a r : Rd} (hPa : P g 6 ts (s.i + 1) L 0 = some a)
    (hr : (a.ok = true ∧ isW (tokAt ts a.i) [41] = true ∧ r = { a with i := a.i + 1 }) ∨ (¬ (a.ok = true ∧ isW (tokAt ts a.i) [41] = true) ∧ r.ok = false ∧ r.i = a.i)) :
    Calls Tryz.prog 285 #[.pointer (some ⟨rb, 0, none⟩)] w (LeftC rb gl cl ts s w r) := by
  have HW1 := want_new h [3] (by decide) (by decide)
  rw [wantQ_yes (by rw [one_contains, hk]; rfl)] at HW1
  have HR : Hid _ := hr
  have HP : Hid _ := hPa
  have HG : Hid _ := hgood
  clear h hk hr hPa hgood
  generalize wantV ts s [3] = wv at *
  go_enter Tryz.func285, Tryz.ntmps285
  go_wp2_with fail
  refine HW1.mono ?_
  rintro e w1 ⟨rfl, h1, F1⟩
  clear HW1
  go_wp2_with fail
  refine (hf g hg _ w1 L a h1 HG.out HP.out).mono ?_
  rintro e w2 ⟨b, rfl, F2, hL⟩
  have hst : ∃ s2, RR rb gl cl ts s2 w2 ∧ ((a.ok = true ∧ s2 = { s with i := a.i } ∧ CondAt a.L rb w2 a.top b) ∨ (a.ok = false ∧ s2 = failQ ts { s with i := a.i })) := by
    rcases hL with ⟨ok, hr, hc⟩ | ⟨ok, hr⟩
    · exact ⟨_, hr, .inl ⟨ok, rfl, hc⟩⟩
    · exact ⟨_, hr, .inr ⟨ok, rfl⟩⟩
  obtain ⟨s2, h2, hst⟩ := hst
  have HW2 := want_new h2 [4] (by decide) (by decide)
  have hQ : Hid (wantQ ts s2 [4] = wantQ ts s2 [4]) := rfl
  have HF2 : Hid _ := F1.trans F2
  have HST : Hid _ := hst
  have H2 : Hid _ := h2
  clear hL F1 F2 h1 hst h2
  generalize wantV ts s2 [4] = wv2 at *
  go_wp2_with fail
  refine HW2.mono ?_
  rintro e w3 ⟨rfl, h3, F3⟩
  clear HW2
  go_wp2_with fail
  go_ret
  refine ⟨b, rfl, HF2.out.trans F3, ?_⟩
  have ht := hW _ (tokAt_mem H2.out.lt)
  have hiw := isW_iff ht (x := [41]) (by decide)
  rw [show kn [41] = 4 from by decide] at hiw
  rcases HST.out with ⟨ok, rfl, hc⟩ | ⟨ok, rfl⟩
  · simp only [] at hiw h3 hc ht
    rcases HR.out with ⟨_, hw, rfl⟩ | ⟨hno, rok, ri⟩
    · rw [wantQ_yes (by rw [one_contains]; simpa using hiw.1 hw)] at h3
      exact .inl ⟨ok, h3, hc.pf H2.out F3⟩
    · have hnw : ¬ isW (tokAt ts a.i) [41] = true := fun e => hno ⟨ok, e⟩
      rw [wantQ_no (by rw [one_contains]; simpa using fun e => hnw (hiw.2 e))] at h3
      exact .inr ⟨rok, by rw [ri]; exact h3⟩
  · rcases HR.out with ⟨yes, _⟩ | ⟨_, rok, ri⟩
    · rw [ok] at yes; simp at yes
    · rw [wantQ_no (by rw [one_contains, end_kind H2.out rfl]; rfl), failQ_twice] at h3
      exact .inr ⟨rok, by rw [ri]; exact h3⟩
end Go.Proofs.YtfkdailfcmnjlaaGreatDoor

namespace Go.Proofs.YtfkdailfcmnjlaaGreatDoor
open Go Go.RowKit
set_option maxRecDepth 100000
attribute [local go_sem ↓] Go.wp_at_zero Go.wp_at_succ

set_option maxHeartbeats 2000000 in
theorem negation_over {rb gl cl : Nat} {ts : List Tok} {s : Q} {w : World} (h : RR rb gl cl ts s w) (hk : kindOf (tokAt ts s.i) = 19) (R : Nat → World → Prop)
    (HC : ∀ w1, RR rb gl cl ts { s with i := s.i + 1 } w1 → PF rb w w1 → Calls Tryz.prog 267 #[.pointer (some ⟨rb, 0, none⟩)] w1 fun e w' => ∃ b, e = .returned (.pointer (some ⟨b, 0, none⟩)) ∧ PF rb w1 w' ∧ R b w') :
    Calls Tryz.prog 278 #[.pointer (some ⟨rb, 0, none⟩)] w fun e w' => ∃ b w3, e = .returned (.pointer (some ⟨w3.heap.size + 1, 0, none⟩)) ∧ R b w3 ∧ PF rb w w3 ∧ w' = overW w3 (tokAt ts s.i) [b] := by
  have HJ : Hid (∀ w3 b, overW w3 (tokAt ts s.i) [b] = (w3.alloc (.cells #[.pointer (some ⟨b, 0, none⟩)] 161 (0, 0))).alloc (.cells #[.int .i64 (kindOf (tokAt ts s.i)), .int .i64 (tokAt ts s.i).pl, .int .i64 (nmOf (tokAt ts s.i)), S (ownOf (tokAt ts s.i)), .slice (some ⟨w3.heap.size, 0, none⟩) 1 1, .int .i64 0] 229 (0, 0))) := fun _ _ => rfl
  have HT := want_new h [19] (by decide) (by decide)
  have hct : [19].contains (kindOf (tokAt ts s.i)) = true := by rw [one_contains, hk]; rfl
  rw [wantQ_yes hct] at HT
  unfold wantV at HT
  rw [if_pos hct] at HT
  unfold wordV at HT
  clear hct hk
  go_enter Tryz.func278, Tryz.ntmps278
  go_wp2_with fail
  refine HT.mono ?_
  rintro e w1 ⟨rfl, h1, F1⟩
  clear HT
  generalize kindOf (tokAt ts s.i) = tk at *
  generalize (tokAt ts s.i).pl = tp at *
  generalize nmOf (tokAt ts s.i) = tm at *
  generalize ownOf (tokAt ts s.i) = tt at *
  have hlt1 := h1.rlt
  have h2 := (h1.alloc (wvObj tk tp tm tt)).drew
  have F2 := ((F1.alloc (wvObj tk tp tm tt)).drew)
  have hx2 : (w1.alloc (wvObj tk tp tm tt)).drew.heap[w1.heap.size]? = some (wvObj tk tp tm tt) := heap_alloc_new w1 _
  have HCD := HC _ h2 F2
  have e1 : w1.heap.size ≠ rb := by omega
  have hl2 : w1.heap.size < (w1.alloc (wvObj tk tp tm tt)).drew.heap.size := lt_of_get hx2
  have keepF : ∀ w', PF rb (w1.alloc (wvObj tk tp tm tt)).drew w' → (w'.cell? ⟨w1.heap.size, 0, none⟩ = some (.int .i64 tk) ∧ w'.cell? ⟨w1.heap.size, 1, none⟩ = some (.int .i64 tp) ∧ w'.cell? ⟨w1.heap.size, 2, none⟩ = some (.int .i64 tm) ∧ w'.cell? ⟨w1.heap.size, 3, none⟩ = some (S tt)) := fun w' hf =>
    (wv_cells (by rw [hf.block _ hl2 e1]; exact hx2)).1
  have KF : Hid _ := keepF
  have H2 : Hid _ := h2
  have HF2 : Hid _ := F2
  have hS := keepF _ (PF.refl _ _)
  clear HC h1 F1 h2 F2 hx2 keepF h
  unfold wvObj at HCD KF H2 HF2 hS hl2
  go_wp2_with fail
  obtain ⟨x0, x1, x2, x3⟩ := hS
  show Code.wp _ _ _ _ (w1.alloc (.cells #[.int .i64 tk, .int .i64 tp, .int .i64 tm, S tt] 160 (0, 0)))
  generalize hg : w1.alloc (.cells #[.int .i64 tk, .int .i64 tp, .int .i64 tm, S tt] 160 (0, 0)) = w2 at *
  generalize w1.heap.size = bx at *
  clear hg hlt1
  go_region_held3 (fun w' => w'.cell? ⟨bx, 0, none⟩ = some (.int .i64 tk) ∧ w'.cell? ⟨bx, 1, none⟩ = some (.int .i64 tp) ∧ w'.cell? ⟨bx, 2, none⟩ = some (.int .i64 tm) ∧ w'.cell? ⟨bx, 3, none⟩ = some (S tt)) (first | exact KF.out _ hF3 | go_keep) ((refine HCD.mono ?_; rintro e w3 ⟨b, rfl, hF3, hR⟩))
  rename_i hHeld
  clear hHeld
  go_wp2_with fail
  go_ret
  exact ⟨b, w3, rfl, hR, HF2.out.trans hF3, (HJ.out w3 b).symm⟩
end Go.Proofs.YtfkdailfcmnjlaaGreatDoor

namespace Go.Proofs.YtfkdailfcmnjlaaGreatDoor
open Go Go.RowKit
set_option maxRecDepth 100000

/-- What reading leaves, without the answer itself. -/
def LeftS (rb gl cl : Nat) (ts : List Tok) (s : Q) (r : Rd) (b : Nat) (w' : World) : Prop := (r.ok = true ∧ RR rb gl cl ts { s with i := r.i } w' ∧ CondAt r.L rb w' r.top b) ∨ (r.ok = false ∧ RR rb gl cl ts (failQ ts { s with i := r.i }) w')
/-- The state in which the next condition is asked. -/
def Nxt (ts : List Tok) (s : Q) (f : Nat) (c a : Rd) (s2 : Q) : Prop := (s2 = { s with i := a.i + 1 } ∧ a.ok = true ∧ P f 6 ts (a.i + 1) a.L 0 = some c) ∨ (c.ok = false ∧ s2 = failQ ts { s with i := c.i })

theorem left_want {rb gl cl : Nat} {ts : List Tok} {s : Q} {a c : Rd} {b f : Nat} {w : World} {x : List UInt8} (h : LeftS rb gl cl ts s a b w) (hW : ∀ t ∈ ts, TokW t) (hN : Nx f ts a c x) (hx : x ∈ spell.drop 3) :
    ∃ s1, RR rb gl cl ts s1 w ∧ Nxt ts s f c a (wantQ ts s1 [kn x]) := by
  unfold Nx at hN
  rcases h with ⟨ok, h1, hc⟩ | ⟨ok, h1⟩
  · refine ⟨_, h1, ?_⟩
    have ht := hW _ (tokAt_mem h1.lt)
    have hiw := isW_iff ht hx
    simp only [] at hiw
    by_cases hw : isW (tokAt ts a.i) x = true
    · rw [if_pos ⟨ok, hw⟩] at hN
      exact .inl ⟨wantQ_yes (by rw [one_contains]; simpa using hiw.1 hw), ok, hN⟩
    · rw [if_neg (fun e => hw e.2)] at hN
      exact .inr ⟨hN.1, by rw [hN.2]; exact wantQ_no (by rw [one_contains]; simpa using fun e => hw (hiw.2 e))⟩
  · rw [if_neg (fun e => by rw [ok] at e; simp at e)] at hN
    refine ⟨_, h1, .inr ⟨hN.1, ?_⟩⟩
    have := spell_big x hx
    have hkn : ¬ (0 = kn x) := by unfold kn; omega
    rw [wantQ_no (by rw [one_contains, end_kind h1 rfl]; simpa using hkn), failQ_twice, hN.2]
theorem next_cond {f rb gl cl : Nat} {ts : List Tok} {s s2 : Q} {a c : Rd} {w : World} (hf : FormOK f 152 6 rb gl cl ts) (hgood : s.bad = false) (h : RR rb gl cl ts s2 w) (hn : Nxt ts s f c a s2) :
    Calls Tryz.prog 152 #[.pointer (some ⟨rb, 0, none⟩)] w fun e w' => ∃ b, e = .returned (.pointer (some ⟨b, 0, none⟩)) ∧ PF rb w w' ∧ LeftS rb gl cl ts s c b w' := by
  rcases hn with ⟨rfl, _, hp⟩ | ⟨ok, rfl⟩
  · exact hf f (Nat.le_refl _) { s with i := a.i + 1 } w a.L c h hgood hp
  · refine (condition_end _ w h rfl rfl).mono ?_
    rintro e w' ⟨b, h1, h2, h3⟩
    exact ⟨b, h1, h2, .inr ⟨ok, h3⟩⟩
end Go.Proofs.YtfkdailfcmnjlaaGreatDoor

namespace Go.Proofs.YtfkdailfcmnjlaaGreatDoor
open Go Go.RowKit
set_option maxRecDepth 100000
attribute [local go_sem ↓] Go.wp_at_zero Go.wp_at_succ

set_option maxHeartbeats 4000000 in
theorem whether_any {f rb gl cl : Nat} {ts : List Tok} {s : Q} {w : World} (hf : FormOK f 152 6 rb gl cl ts) (h : RR rb gl cl ts s w) (hW : ∀ t ∈ ts, TokW t) (hgood : s.bad = false) (hk : kindOf (tokAt ts s.i) = 14) {L : List Pt} {a b c r : Rd} (hPa : P f 6 ts (s.i + 1) L 0 = some a)
    (hNb : Nx f ts a b wThen) (hNc : Nx f ts b c wElse) (hrc : r.ok = c.ok) (hri : r.i = c.i) (hrp : c.ok = true → a.ok = true ∧ b.ok = true ∧ r = put c (tokAt ts s.i) [a.top, b.top, c.top]) :
    Calls Tryz.prog 214 #[.pointer (some ⟨rb, 0, none⟩)] w (LeftC rb gl cl ts s w r) := by
  have HJ : Hid (∀ w3 b1 b2 b3, overW w3 (tokAt ts s.i) [b1, b2, b3] = (w3.alloc (.cells #[.pointer (some ⟨b1, 0, none⟩), .pointer (some ⟨b2, 0, none⟩), .pointer (some ⟨b3, 0, none⟩)] 161 (0, 0))).alloc (.cells #[.int .i64 (kindOf (tokAt ts s.i)), .int .i64 (tokAt ts s.i).pl, .int .i64 (nmOf (tokAt ts s.i)), S (ownOf (tokAt ts s.i)), .slice (some ⟨w3.heap.size, 0, none⟩) 3 3, .int .i64 0] 229 (0, 0))) := fun _ _ _ _ => rfl
  have HT := want_new h [14] (by decide) (by decide)
  have hct : [14].contains (kindOf (tokAt ts s.i)) = true := by rw [one_contains, hk]; rfl
  rw [wantQ_yes hct] at HT
  unfold wantV at HT
  rw [if_pos hct] at HT
  unfold wordV at HT
  have HG : Hid _ := hgood
  have HPa : Hid _ := hPa
  have HNb : Hid _ := hNb
  have HNc : Hid _ := hNc
  have HRc : Hid _ := hrc
  have HRi : Hid _ := hri
  have HRp : Hid _ := hrp
  have HW : Hid _ := hW
  clear hct hk h hgood hPa hNb hNc hrc hri hrp hW
  generalize htk : tokAt ts s.i = t0 at HJ HT HRp
  clear htk
  generalize hk1 : kindOf t0 = tk at *
  generalize hk2 : t0.pl = tp at *
  generalize hk3 : nmOf t0 = tm at *
  generalize hk4 : ownOf t0 = tt at *
  clear hk1 hk2 hk3 hk4
  go_enter Tryz.func214, Tryz.ntmps214
  go_wp2_with fail
  refine HT.mono ?_
  rintro e w1 ⟨rfl, h1, F1⟩
  clear HT
  have hlt1 := h1.rlt
  have h2 := h1.alloc (wvObj tk tp tm tt)
  have F2 := F1.alloc (wvObj tk tp tm tt)
  have hx2 : (w1.alloc (wvObj tk tp tm tt)).heap[w1.heap.size]? = some (wvObj tk tp tm tt) := heap_alloc_new w1 _
  have e1 : w1.heap.size ≠ rb := by omega
  unfold wvObj at h2 F2 hx2
  clear h1 F1
  go_wp2_with fail
  show Calls _ _ _ (w1.alloc (.cells #[.int .i64 tk, .int .i64 tp, .int .i64 tm, S tt] 160 (0, 0))) _
  have hl2 : w1.heap.size < (w1.alloc (.cells #[.int .i64 tk, .int .i64 tp, .int .i64 tm, S tt] 160 (0, 0))).heap.size := lt_of_get hx2
  generalize w1.alloc (.cells #[.int .i64 tk, .int .i64 tp, .int .i64 tm, S tt] 160 (0, 0)) = w2 at *
  generalize w1.heap.size = bx at *
  refine (hf f (Nat.le_refl _) { s with i := s.i + 1 } w2 L a h2 HG.out HPa.out).mono ?_
  rintro e w3 ⟨ba, rfl, F3, hLa⟩
  have hLa : LeftS rb gl cl ts s a ba w3 := hLa
  obtain ⟨s3, h3, hN3⟩ := left_want hLa HW.out HNb.out (by decide)
  rw [show kn wThen = 15 from by decide] at hN3
  have HW3 := want_new h3 [15] (by decide) (by decide)
  have HLa : Hid _ := hLa
  have HN3 : Hid _ := hN3
  clear hLa hN3 h3 h2
  generalize wantV ts s3 [15] = wv3 at *
  go_wp2_with fail
  refine HW3.mono ?_
  rintro e w4 ⟨rfl, h4, F4⟩
  clear HW3
  go_wp2_with fail
  refine (next_cond hf HG.out h4 HN3.out).mono ?_
  rintro e w5 ⟨bb, rfl, F5, hLb⟩
  obtain ⟨s5, h5, hN5⟩ := left_want hLb HW.out HNc.out (by decide)
  rw [show kn wElse = 16 from by decide] at hN5
  have HW5 := want_new h5 [16] (by decide) (by decide)
  have HLb : Hid _ := hLb
  have HN5 : Hid _ := hN5
  have F35 : PF rb w3 w5 := F4.trans F5
  clear hLb hN5 h5 h4 F4 F5
  generalize wantV ts s5 [16] = wv5 at *
  go_wp2_with fail
  refine HW5.mono ?_
  rintro e w6 ⟨rfl, h6, F6⟩
  clear HW5
  have HCD := next_cond hf HG.out h6.drew HN5.out
  have F26 : PF rb w2 w6.drew := ((F3.trans F35).trans F6).drew
  have F56 : PF rb w5 w6.drew := F6.drew
  have F36 : PF rb w3 w6.drew := (F35.trans F6).drew
  have hx6 : w6.drew.heap[bx]? = some (.cells #[.int .i64 tk, .int .i64 tp, .int .i64 tm, S tt] 160 (0, 0)) := by rw [F26.block _ hl2 e1]; exact hx2
  have hl6 := lt_of_get hx6
  have keepF : ∀ w', PF rb w6.drew w' → (w'.cell? ⟨bx, 0, none⟩ = some (.int .i64 tk) ∧ w'.cell? ⟨bx, 1, none⟩ = some (.int .i64 tp) ∧ w'.cell? ⟨bx, 2, none⟩ = some (.int .i64 tm) ∧ w'.cell? ⟨bx, 3, none⟩ = some (S tt)) := fun w' hf =>
    (wv_cells (by rw [hf.block _ hl6 e1]; exact hx6)).1
  have KF : Hid _ := keepF
  have hS := keepF _ (PF.refl _ _)
  obtain ⟨x0, x1, x2, x3⟩ := hS
  have HF26 : Hid _ := F2.trans F26
  have HF36 : Hid _ := F36
  have HF56 : Hid _ := F56
  clear keepF F26 F56 F36 F2 F3 F35 F6 h6 hx6 hx2 hl2
  go_wp2_with fail
  go_region_held3 (fun w' => w'.cell? ⟨bx, 0, none⟩ = some (.int .i64 tk) ∧ w'.cell? ⟨bx, 1, none⟩ = some (.int .i64 tp) ∧ w'.cell? ⟨bx, 2, none⟩ = some (.int .i64 tm) ∧ w'.cell? ⟨bx, 3, none⟩ = some (S tt)) (first | exact KF.out _ hF7 | go_keep) ((refine HCD.mono ?_; rintro e w7 ⟨bc, rfl, hF7, hLc⟩))
  rename_i hHeld
  clear hHeld x0 x1 x2 x3 HCD
  have HLc : Hid _ := hLc
  clear hLc
  go_wp2_with fail
  go_ret
  have hE := HJ.out w7 ba bb bc
  have hB := over_below w7 t0 [ba, bb, bc]
  have hF7' : PF rb w (overW w7 t0 [ba, bb, bc]) := (HF26.out.trans hF7).trans (PF.of_below hB)
  rw [hE] at hB hF7'
  refine ⟨w7.heap.size + 1, rfl, hF7', ?_⟩
  have hmoreN : ∀ {p q : Rd} {x : List UInt8}, Nx f ts p q x → q.ok = true → ∃ new, q.L = p.L ++ new := fun {p q x} hN ok => by
    unfold Nx at hN
    by_cases hc : p.ok = true ∧ isW (tokAt ts p.i) x = true
    · rw [if_pos hc] at hN; exact P_more hN ok (by omega)
    · rw [if_neg hc] at hN; rw [hN.1] at ok; simp at ok
  rcases HLc.out with ⟨ok, h7, hcc⟩ | ⟨ok, h7⟩
  · obtain ⟨oka, okb, rfl⟩ := HRp.out ok
    refine .inl ⟨rfl, h7.below hB, ?_⟩
    rw [← hE]
    rcases HLa.out with ⟨_, ha, hca⟩ | ⟨no, _⟩
    · rcases HLb.out with ⟨_, hb, hcb⟩ | ⟨no, _⟩
      · refine over_at h7.rlt rfl (by simp) fun j hj => ?_
        match j, hj with
        | 0, _ => exact more_at (more_at (hca.pf ha (HF36.out.trans hF7)) (hmoreN HNb.out okb)) (hmoreN HNc.out ok)
        | 1, _ => exact more_at (hcb.pf hb (HF56.out.trans hF7)) (hmoreN HNc.out ok)
        | 2, _ => exact hcc
      · rw [okb] at no; simp at no
    · rw [oka] at no; simp at no
  · exact .inr ⟨by rw [HRc.out]; exact ok, by rw [HRi.out]; exact h7.below hB⟩
end Go.Proofs.YtfkdailfcmnjlaaGreatDoor

namespace Go.Proofs.YtfkdailfcmnjlaaGreatDoor
open Go Go.RowKit
set_option maxRecDepth 100000
attribute [local go_sem ↓] Go.wp_at_zero Go.wp_at_succ

set_option maxHeartbeats 1000000 in
theorem sum_step {f rb gl cl : Nat} {ts : List Tok} {s : Q} {w : World} (hf : FormOK f 284 5 rb gl cl ts) (hW : ∀ t ∈ ts, TokW t) (h : RR rb gl cl ts s w) (hgood : s.bad = false) {L : List Pt} {r : Rd} (hP : P (f + 1) 4 ts s.i L 0 = some r) :
    Calls Tryz.prog 283 #[.pointer (some ⟨rb, 0, none⟩)] w (LeftC rb gl cl ts s w r) := by
  have hnew : (w.alloc (ksObj [6, 7])).heap[w.heap.size]? = some (ksObj [6, 7]) := heap_alloc_new w _
  have HF := chain_any (h.alloc (ksObj [6, 7])) hW hgood 4 284 (by omega) hf ent_one w.heap.size hnew L r hP
  unfold mv at HF
  have HA : Hid (PF rb w (w.alloc (ksObj [6, 7]))) := (PF.refl rb w).alloc _
  clear h hgood hnew hP hf hW
  go_enter Tryz.func283, Tryz.ntmps283
  go_wp2_with fail
  refine HF.mono ?_
  rintro e w' ⟨b, rfl, h1, h2⟩
  clear HF
  go_wp2_with fail
  go_ret
  exact ⟨b, rfl, HA.out.trans h1, h2⟩

set_option maxHeartbeats 1000000 in
theorem compared_step {f rb gl cl : Nat} {ts : List Tok} {s : Q} {w : World} (hf : FormOK f 283 4 rb gl cl ts) (hW : ∀ t ∈ ts, TokW t) (h : RR rb gl cl ts s w) (hgood : s.bad = false) {L : List Pt} {r : Rd} (hP : P (f + 1) 3 ts s.i L 0 = some r) :
    Calls Tryz.prog 279 #[.pointer (some ⟨rb, 0, none⟩)] w (LeftC rb gl cl ts s w r) := by
  have hnew : (w.alloc (ksObj [8, 10, 9])).heap[w.heap.size]? = some (ksObj [8, 10, 9]) := heap_alloc_new w _
  have HF := pair_any (h.alloc (ksObj [8, 10, 9])) hW hgood 283 hf ent_sum w.heap.size hnew L r hP
  unfold mv at HF
  have HA : Hid (PF rb w (w.alloc (ksObj [8, 10, 9]))) := (PF.refl rb w).alloc _
  clear h hgood hnew hP hf hW
  go_enter Tryz.func279, Tryz.ntmps279
  go_wp2_with fail
  refine HF.mono ?_
  rintro e w' ⟨b, rfl, h1, h2⟩
  clear HF
  go_wp2_with fail
  go_ret
  exact ⟨b, rfl, HA.out.trans h1, h2⟩

set_option maxHeartbeats 1000000 in
theorem both_step {f rb gl cl : Nat} {ts : List Tok} {s : Q} {w : World} (hf : FormOK f 267 2 rb gl cl ts) (hW : ∀ t ∈ ts, TokW t) (h : RR rb gl cl ts s w) (hgood : s.bad = false) {L : List Pt} {r : Rd} (hP : P (f + 1) 1 ts s.i L 0 = some r) :
    Calls Tryz.prog 247 #[.pointer (some ⟨rb, 0, none⟩)] w (LeftC rb gl cl ts s w r) := by
  have hnew : (w.alloc (ksObj [18])).heap[w.heap.size]? = some (ksObj [18]) := heap_alloc_new w _
  have HF := chain_any (h.alloc (ksObj [18])) hW hgood 1 267 (by omega) hf ent_part w.heap.size hnew L r hP
  unfold mv at HF
  have HA : Hid (PF rb w (w.alloc (ksObj [18]))) := (PF.refl rb w).alloc _
  clear h hgood hnew hP hf hW
  go_enter Tryz.func247, Tryz.ntmps247
  go_wp2_with fail
  refine HF.mono ?_
  rintro e w' ⟨b, rfl, h1, h2⟩
  clear HF
  go_wp2_with fail
  go_ret
  exact ⟨b, rfl, HA.out.trans h1, h2⟩

set_option maxHeartbeats 1000000 in
theorem choice_step {f rb gl cl : Nat} {ts : List Tok} {s : Q} {w : World} (hf : FormOK f 247 1 rb gl cl ts) (hW : ∀ t ∈ ts, TokW t) (h : RR rb gl cl ts s w) (hgood : s.bad = false) {L : List Pt} {r : Rd} (hP : P (f + 1) 0 ts s.i L 0 = some r) :
    Calls Tryz.prog 215 #[.pointer (some ⟨rb, 0, none⟩)] w (LeftC rb gl cl ts s w r) := by
  have hnew : (w.alloc (ksObj [17])).heap[w.heap.size]? = some (ksObj [17]) := heap_alloc_new w _
  have HF := chain_any (h.alloc (ksObj [17])) hW hgood 0 247 (by omega) hf ent_both w.heap.size hnew L r hP
  unfold mv at HF
  have HA : Hid (PF rb w (w.alloc (ksObj [17]))) := (PF.refl rb w).alloc _
  clear h hgood hnew hP hf hW
  go_enter Tryz.func215, Tryz.ntmps215
  go_wp2_with fail
  refine HF.mono ?_
  rintro e w' ⟨b, rfl, h1, h2⟩
  clear HF
  go_wp2_with fail
  go_ret
  exact ⟨b, rfl, HA.out.trans h1, h2⟩

set_option maxHeartbeats 1000000 in
theorem one_fork {rb : Nat} {w : World} {R : Nat → World → Prop} (HF : Calls Tryz.prog 213 #[.pointer (some ⟨rb, 0, none⟩), .int .i64 3, mv 285 rb, mv 286 rb] w fun e w' => ∃ b, e = .returned (.pointer (some ⟨b, 0, none⟩)) ∧ R b w') :
    Calls Tryz.prog 284 #[.pointer (some ⟨rb, 0, none⟩)] w fun e w' => ∃ b, e = .returned (.pointer (some ⟨b, 0, none⟩)) ∧ R b w' := by
  unfold mv at HF
  go_enter Tryz.func284, Tryz.ntmps284
  go_wp2_with fail
  refine HF.mono ?_
  rintro e w' ⟨b, rfl, h1⟩
  clear HF
  go_wp2_with fail
  go_ret
  exact ⟨b, rfl, h1⟩

set_option maxHeartbeats 1000000 in
theorem part_fork {rb : Nat} {w : World} {R : Nat → World → Prop} (HF : Calls Tryz.prog 213 #[.pointer (some ⟨rb, 0, none⟩), .int .i64 19, mv 278 rb, mv 279 rb] w fun e w' => ∃ b, e = .returned (.pointer (some ⟨b, 0, none⟩)) ∧ R b w') :
    Calls Tryz.prog 267 #[.pointer (some ⟨rb, 0, none⟩)] w fun e w' => ∃ b, e = .returned (.pointer (some ⟨b, 0, none⟩)) ∧ R b w' := by
  unfold mv at HF
  go_enter Tryz.func267, Tryz.ntmps267
  go_wp2_with fail
  refine HF.mono ?_
  rintro e w' ⟨b, rfl, h1⟩
  clear HF
  go_wp2_with fail
  go_ret
  exact ⟨b, rfl, h1⟩

set_option maxHeartbeats 1000000 in
theorem condition_fork {rb : Nat} {w : World} {R : Nat → World → Prop} (HF : Calls Tryz.prog 213 #[.pointer (some ⟨rb, 0, none⟩), .int .i64 14, mv 214 rb, mv 215 rb] w fun e w' => ∃ b, e = .returned (.pointer (some ⟨b, 0, none⟩)) ∧ R b w') :
    Calls Tryz.prog 152 #[.pointer (some ⟨rb, 0, none⟩)] w fun e w' => ∃ b, e = .returned (.pointer (some ⟨b, 0, none⟩)) ∧ R b w' := by
  unfold mv at HF
  go_enter Tryz.func152, Tryz.ntmps152
  go_wp2_with fail
  refine HF.mono ?_
  rintro e w' ⟨b, rfl, h1⟩
  clear HF
  go_wp2_with fail
  go_ret
  exact ⟨b, rfl, h1⟩
end Go.Proofs.YtfkdailfcmnjlaaGreatDoor

namespace Go.Proofs.YtfkdailfcmnjlaaGreatDoor
open Go Go.RowKit
set_option maxRecDepth 100000

theorem drewC {rb gl cl : Nat} {ts : List Tok} {s : Q} {w : World} {r : Rd} {e : Ending} {w' : World} (h : LeftC rb gl cl ts s w.drew r e w') : ∃ b, e = .returned (.pointer (some ⟨b, 0, none⟩)) ∧ (PF rb w w' ∧ LeftS rb gl cl ts s r b w') := by
  obtain ⟨b, h1, h2, h3⟩ := h
  exact ⟨b, h1, (PF.refl rb w).drew.trans h2, h3⟩
theorem kind_is {ts : List Tok} {t : Tok} (ht : TokW t) {x : List UInt8} (hx : x ∈ spell.drop 3) {k : Nat} (hk : kn x = k) (h : isW t x = true) : kindOf t = k := by rw [← hk]; exact (isW_iff ht hx).1 h
theorem kind_isnt {ts : List Tok} {t : Tok} (ht : TokW t) {x : List UInt8} (hx : x ∈ spell.drop 3) {k : Nat} (hk : kn x = k) (h : ¬ isW t x = true) : kindOf t ≠ k := by rw [← hk]; exact fun e => h ((isW_iff ht hx).2 e)

theorem pone_step {f rb gl cl : Nat} {ts : List Tok} {s : Q} {w : World} (hf : FormOK f 152 6 rb gl cl ts) (hW : ∀ t ∈ ts, TokW t) (h : RR rb gl cl ts s w) (hgood : s.bad = false) {L : List Pt} {r : Rd} (hP : P (f + 1) 5 ts s.i L 0 = some r) :
    Calls Tryz.prog 284 #[.pointer (some ⟨rb, 0, none⟩)] w (LeftC rb gl cl ts s w r) := by
  have ht := hW _ (tokAt_mem h.lt)
  by_cases hw : isW (tokAt ts s.i) [40] = true
  · have hk := kind_is (ts := ts) ht (x := [40]) (by decide) (k := 3) (by decide) hw
    obtain ⟨a, hPa, hr⟩ := one_open hP hw
    exact one_fork (fork_yes h 3 _ _ hk ent_bracketed (fun b w' => PF rb w w' ∧ LeftS rb gl cl ts s r b w') ((bracketed_any hf h.drew hW hgood hk (Nat.le_refl _) hPa hr).mono fun e w' hl => drewC hl))
  · have hk := kind_isnt (ts := ts) ht (x := [40]) (by decide) (k := 3) (by decide) hw
    refine one_fork (fork_no h 3 _ _ hk ent_single (fun b w' => PF rb w w' ∧ LeftS rb gl cl ts s r b w') ?_)
    rcases one_alone hP hw with ⟨ha, rfl⟩ | ⟨ha, rfl⟩
    · exact (single_yes h.drew ht ha L).mono fun e w' hl => drewC hl
    · exact (single_no h.drew ht ha).mono fun e w' hl => drewC hl
theorem part_step {f rb gl cl : Nat} {ts : List Tok} {s : Q} {w : World} (hf : FormOK f 267 2 rb gl cl ts) (hf3 : FormOK f 279 3 rb gl cl ts) (hW : ∀ t ∈ ts, TokW t) (h : RR rb gl cl ts s w) (hgood : s.bad = false) {L : List Pt} {r : Rd} (hP : P (f + 1) 2 ts s.i L 0 = some r) :
    Calls Tryz.prog 267 #[.pointer (some ⟨rb, 0, none⟩)] w (LeftC rb gl cl ts s w r) := by
  have ht := hW _ (tokAt_mem h.lt)
  by_cases hw : isW (tokAt ts s.i) wNot = true
  · have hk := kind_is (ts := ts) ht (x := wNot) (by decide) (k := 19) (by decide) hw
    obtain ⟨a, hPa, hok, hi, hput⟩ := not_yes hP hw
    refine part_fork (fork_yes h 19 _ _ hk ent_negation (fun b w' => PF rb w w' ∧ LeftS rb gl cl ts s r b w') ?_)
    refine (negation_over h.drew hk (LeftS rb gl cl ts s a) (fun w1 h1 F1 => hf f (Nat.le_refl _) { s with i := s.i + 1 } w1 L a h1 hgood hPa)).mono ?_
    rintro e w' ⟨b, w3, rfl, hL, F3, rfl⟩
    have hB := over_below w3 (tokAt ts s.i) [b]
    refine ⟨_, rfl, ((PF.refl rb w).drew.trans F3).trans (PF.of_below hB), ?_⟩
    rcases hL with ⟨ok, h3, hc⟩ | ⟨ok, h3⟩
    · have e := hput ok
      subst e
      refine .inl ⟨rfl, h3.below hB, ?_⟩
      refine over_at h3.rlt rfl (by simp) fun j hj => ?_
      match j, hj with
      | 0, _ => exact hc
    · exact .inr ⟨by rw [hok]; exact ok, by rw [hi]; exact h3.below hB⟩
  · have hk := kind_isnt (ts := ts) ht (x := wNot) (by decide) (k := 19) (by decide) hw
    exact part_fork (fork_no h 19 _ _ hk ent_compared (fun b w' => PF rb w w' ∧ LeftS rb gl cl ts s r b w') ((hf3 f (Nat.le_refl _) s _ L r h.drew hgood (not_no hP hw)).mono fun e w' hl => drewC hl))
theorem pcondition_step {f rb gl cl : Nat} {ts : List Tok} {s : Q} {w : World} (hf : FormOK f 152 6 rb gl cl ts) (hf0 : FormOK f 215 0 rb gl cl ts) (hW : ∀ t ∈ ts, TokW t) (h : RR rb gl cl ts s w) (hgood : s.bad = false) {L : List Pt} {r : Rd} (hP : P (f + 1) 6 ts s.i L 0 = some r) :
    Calls Tryz.prog 152 #[.pointer (some ⟨rb, 0, none⟩)] w (LeftC rb gl cl ts s w r) := by
  have ht := hW _ (tokAt_mem h.lt)
  by_cases hw : isW (tokAt ts s.i) wIf = true
  · have hk := kind_is (ts := ts) ht (x := wIf) (by decide) (k := 14) (by decide) hw
    obtain ⟨a, b, c, hPa, hNb, hNc, hrc, hri, hrp⟩ := if_split hP hw
    exact condition_fork (fork_yes h 14 _ _ hk ent_whether (fun b w' => PF rb w w' ∧ LeftS rb gl cl ts s r b w') ((whether_any hf h.drew hW hgood hk hPa hNb hNc hrc hri hrp).mono fun e w' hl => drewC hl))
  · have hk := kind_isnt (ts := ts) ht (x := wIf) (by decide) (k := 14) (by decide) hw
    exact condition_fork (fork_no h 14 _ _ hk ent_choice (fun b w' => PF rb w w' ∧ LeftS rb gl cl ts s r b w') ((hf0 f (Nat.le_refl _) s _ L r h.drew hgood (if_not hP hw)).mono fun e w' hl => drewC hl))

/-- EVERY FORM. -/
theorem forms {rb gl cl : Nat} {ts : List Tok} (hW : ∀ t ∈ ts, TokW t) (f : Nat) :
    FormOK f 152 6 rb gl cl ts ∧ FormOK f 215 0 rb gl cl ts ∧ FormOK f 247 1 rb gl cl ts ∧ FormOK f 267 2 rb gl cl ts ∧ FormOK f 279 3 rb gl cl ts ∧ FormOK f 283 4 rb gl cl ts ∧ FormOK f 284 5 rb gl cl ts := by
  induction f with
  | zero =>
    have hz : ∀ fn lv, FormOK 0 fn lv rb gl cl ts := fun fn lv g hg s w L r _ _ hP => by
      obtain rfl : g = 0 := by omega
      rw [P] at hP; simp at hP
    exact ⟨hz _ _, hz _ _, hz _ _, hz _ _, hz _ _, hz _ _, hz _ _⟩
  | succ f ih =>
    obtain ⟨c6, c0, c1, c2, c3, c4, c5⟩ := ih
    have up : ∀ {fn lv}, FormOK f fn lv rb gl cl ts → (∀ (s1 : Q) (w1 : World) (L : List Pt) (r1 : Rd), RR rb gl cl ts s1 w1 → s1.bad = false → P (f + 1) lv ts s1.i L 0 = some r1 → Calls Tryz.prog fn #[.pointer (some ⟨rb, 0, none⟩)] w1 (LeftC rb gl cl ts s1 w1 r1)) → FormOK (f + 1) fn lv rb gl cl ts := fun {fn lv} h1 h2 g hg s w L r hr hb hP => by
      by_cases e : g = f + 1
      · subst e; exact h2 s w L r hr hb hP
      · exact h1 g (by omega) s w L r hr hb hP
    exact ⟨up c6 fun s w L r h hb hP => pcondition_step c6 c0 hW h hb hP, up c0 fun s w L r h hb hP => choice_step c1 hW h hb hP, up c1 fun s w L r h hb hP => both_step c2 hW h hb hP, up c2 fun s w L r h hb hP => part_step c2 c3 hW h hb hP, up c3 fun s w L r h hb hP => compared_step c4 hW h hb hP, up c4 fun s w L r h hb hP => sum_step c5 hW h hb hP, up c5 fun s w L r h hb hP => pone_step c6 hW h hb hP⟩
end Go.Proofs.YtfkdailfcmnjlaaGreatDoor

namespace Go.Proofs.YtfkdailfcmnjlaaGreatDoor
open Go Go.RowKit
set_option maxRecDepth 100000

/-- A state that may have failed at a word. -/
def Stp (ts : List Tok) (s : Q) (ok : Bool) (j : Nat) : Q := if ok then { s with i := j } else failQ ts { s with i := j }
theorem Stp_ok (ts : List Tok) (s : Q) (j : Nat) : Stp ts s true j = { s with i := j } := rfl
theorem Stp_no (ts : List Tok) (s : Q) (j : Nat) : Stp ts s false j = failQ ts { s with i := j } := rfl
/-- Does a word of one of these kinds follow? -/
def sees (ts : List Tok) (ks : List Nat) (j : Nat) : Bool := ks.contains (kindOf (tokAt ts j))
def nextI (b : Bool) (j : Nat) : Nat := if b then j + 1 else j

theorem wantQ_stp {rb gl cl : Nat} {ts : List Tok} {s : Q} {ok : Bool} {j : Nat} {w : World} (h : RR rb gl cl ts (Stp ts s ok j) w) (ks : List Nat) (h0 : 0 ∉ ks) :
    wantQ ts (Stp ts s ok j) ks = Stp ts s (ok && sees ts ks j) (nextI (ok && sees ts ks j) j) := by
  cases ok with
  | true =>
    rw [Bool.true_and, Stp_ok] at *
    cases hs : sees ts ks j with
    | true => rw [wantQ_yes (by exact hs)]; rfl
    | false => rw [wantQ_no (by exact hs)]; rfl
  | false =>
    rw [Bool.false_and, Stp_no] at *
    rw [wantQ_no (by
      rw [end_kind h rfl, Bool.eq_false_iff]; intro e; rw [List.contains_iff_mem] at e; exact h0 e), failQ_twice]
    rfl
/-- What 'want' answers from such a state. -/
def wantW (ts : List Tok) (ok : Bool) (j : Nat) (ks : List Nat) : Value := if ok && sees ts ks j then wordV (tokAt ts j) (tokAt ts j).pl else .agg #[.int .i64 0, .int .i64 0, .int .i64 0, S []]
theorem wantV_stp {rb gl cl : Nat} {ts : List Tok} {s : Q} {ok : Bool} {j : Nat} {w : World} (h : RR rb gl cl ts (Stp ts s ok j) w) (ks : List Nat) (h0 : 0 ∉ ks) :
    wantV ts (Stp ts s ok j) ks = wantW ts ok j ks := by
  unfold wantV wantW
  cases ok with
  | true => rw [Bool.true_and, Stp_ok]; rfl
  | false =>
    rw [Stp_no] at *
    rw [if_neg (by rw [end_kind h rfl]; intro e; rw [List.contains_iff_mem] at e; exact h0 e)]
    simp
theorem want_stp {rb gl cl : Nat} {ts : List Tok} {s : Q} {ok : Bool} {j : Nat} {w : World} (h : RR rb gl cl ts (Stp ts s ok j) w) (ks : List Nat) (hl : ks.length ≤ 100) (h0 : 0 ∉ ks) :
    Calls Tryz.prog 151 #[.pointer (some ⟨rb, 0, none⟩), .slice (some ⟨w.heap.size, 0, none⟩) ks.length ks.length] (w.alloc (ksObj ks)) fun e w' => e = .returned (wantW ts ok j ks) ∧ RR rb gl cl ts (Stp ts s (ok && sees ts ks j) (nextI (ok && sees ts ks j) j)) w' ∧ PF rb w w' := by
  rw [← wantV_stp h ks h0, ← wantQ_stp h ks h0]; exact want_new h ks hl h0

/-- A condition from such a state. -/
theorem cond_stp {f rb gl cl : Nat} {ts : List Tok} {s : Q} {ok : Bool} {j : Nat} {w : World} {L : List Pt} {a : Rd} (hf : FormOK f 152 6 rb gl cl ts) (hgood : s.bad = false) (h : RR rb gl cl ts (Stp ts s ok j) w) (hP : ok = true → P f 6 ts j L 0 = some a) :
    Calls Tryz.prog 152 #[.pointer (some ⟨rb, 0, none⟩)] w fun e w' => ∃ b, e = .returned (.pointer (some ⟨b, 0, none⟩)) ∧ PF rb w w' ∧ RR rb gl cl ts (Stp ts s (ok && a.ok) (if ok then a.i else j)) w' ∧ ((ok && a.ok) = true → CondAt a.L rb w' a.top b) := by
  cases ok with
  | true =>
    rw [Stp_ok] at h
    refine (hf f (Nat.le_refl _) _ w L a h hgood (hP rfl)).mono ?_
    rintro e w' ⟨b, h1, h2, h3⟩
    refine ⟨b, h1, h2, ?_⟩
    rcases h3 with ⟨ok, h3, h4⟩ | ⟨ok, h3⟩
    · rw [ok]; exact ⟨h3, fun _ => h4⟩
    · rw [ok]; exact ⟨h3, fun e => by simp at e⟩
  | false =>
    rw [Stp_no] at h
    refine (condition_end _ w h rfl rfl).mono ?_
    rintro e w' ⟨b, h1, h2, h3⟩
    exact ⟨b, h1, h2, h3, fun e => by simp at e⟩
end Go.Proofs.YtfkdailfcmnjlaaGreatDoor
