/-
  Rewriting conditions: what hangs on an event. Rewriting conditions: the passes at one part. Rewriting conditions: names, and what is the same of every event. Rewriting conditions: the parts under a part.
-/
import Derived.Test.YtfkdailfcmnjlaaGreatDoorCompiles01
import Derived.Test.YtfkdailfcmnjlaaGreatDoorCompiles02
import Derived.Test.YtfkdailfcmnjlaaGreatDoorCompiles04
import Derived.Test.YtfkdailfcmnjlaaGreatDoorCompiles05
import Derived.Test.YtfkdailfcmnjlaaGreatDoorCompiles06
import Derived.Test.YtfkdailfcmnjlaaGreatDoorCompiles07
import Derived.Test.YtfkdailfcmnjlaaGreatDoorCompiles08
import Derived.Test.YtfkdailfcmnjlaaGreatDoorCompiles09
import Derived.Test.YtfkdailfcmnjlaaGreatDoorCompiles10
import Derived.Test.YtfkdailfcmnjlaaGreatDoorCompiles11
import Derived.Test.YtfkdailfcmnjlaaGreatDoorCompiles12
import Derived.Test.YtfkdailfcmnjlaaGreatDoorCompiles13
import Derived.Test.YtfkdailfcmnjlaaGreatDoorCompiles14
import Derived.Test.YtfkdailfcmnjlaaGreatDoorCompiles15
import Derived.Test.YtfkdailfcmnjlaaGreatDoorCompiles16
import Derived.Test.YtfkdailfcmnjlaaGreatDoorCompiles17
import Derived.Test.YtfkdailfcmnjlaaGreatDoorCompiles18
import Derived.Test.YtfkdailfcmnjlaaGreatDoorCompiles19
import Derived.Test.YtfkdailfcmnjlaaGreatDoorCompiles20
import Derived.Test.YtfkdailfcmnjlaaGreatDoorCompiles21
import Derived.Test.YtfkdailfcmnjlaaGreatDoorCompiles22
import Derived.Test.YtfkdailfcmnjlaaGreatDoorCompiles23
import Derived.Test.YtfkdailfcmnjlaaGreatDoorCompiles24
import Derived.Test.YtfkdailfcmnjlaaGreatDoorCompiles25
import Derived.Test.YtfkdailfcmnjlaaGreatDoorCompiles26
import Derived.Test.YtfkdailfcmnjlaaGreatDoorCompiles27
import Derived.Test.YtfkdailfcmnjlaaGreatDoorCompiles28
import Derived.Test.YtfkdailfcmnjlaaGreatDoorCompiles29
import Derived.Test.YtfkdailfcmnjlaaGreatDoorCompiles30
import Derived.Test.YtfkdailfcmnjlaaGreatDoorCompiles31
import Derived.Test.YtfkdailfcmnjlaaGreatDoorCompiles32
import Derived.Test.YtfkdailfcmnjlaaGreatDoorCompiles34
import Derived.Test.YtfkdailfcmnjlaaGreatDoorCompiles35
import Derived.Test.YtfkdailfcmnjlaaGreatDoorCompiles37
import Derived.Test.YtfkdailfcmnjlaaGreatDoorCompiles38
import Derived.Test.YtfkdailfcmnjlaaGreatDoorCompiles39
import Derived.Test.YtfkdailfcmnjlaaGreatDoorCompiles40
import Derived.Test.YtfkdailfcmnjlaaGreatDoorCompiles41
import Derived.Test.YtfkdailfcmnjlaaGreatDoorCompiles42
import Derived.Test.YtfkdailfcmnjlaaGreatDoorCompiles43
import Derived.Test.YtfkdailfcmnjlaaGreatDoorCompiles46
import Derived.Test.YtfkdailfcmnjlaaGreatDoorLays
import Derived.Test.YtfkdailfcmnjlaaGreatDoorLays2
import Derived.WalkKit
import Derived.Deep.QuietTactic
import Derived.BigQuiet
import Derived.WalkSpells
import GoSem.Op.String
import Derived.Deep.AppendLies
import Derived.Deep.RegionHeld3
import Derived.Deep.DrawnRows
import Derived.Deep.RegionHeldLaw
import Derived.Deep.RegionLaw
import Derived.Lib.ParseIntBCases
import Derived.Deep.OwnRows
import Derived.Lib.LaidTab
import Derived.Lib.AppendIntMem
import Derived.Shelf.Strings.Builder1
import Derived.Laws.CopyOwn
import Derived.Deep.DeepCutAuto
import Derived.WalkSmall
import Derived.Lib.AppendZerosOnto
import Derived.Deep.Upon
set_option linter.unusedVariables false
set_option linter.unusedSimpArgs false
namespace Go.Proofs.YtfkdailfcmnjlaaGreatDoor
open Go Go.RowKit
set_option maxRecDepth 100000
attribute [local go_sem ↓] Go.wp_at_zero Go.wp_at_succ

/-- Does it hang on an event, at most so deep. -/
def HgOK (d : Nat) : Prop := ∀ {t : Tr} {w : World} {b : Nat}, WfT d t → TrAt d w b t → Calls Tryz.prog 254 #[.pointer (some ⟨b, 0, none⟩)] w fun e w' => e = .returned (.bool (hangsT d t)) ∧ Below w.heap.size w w'
set_option maxHeartbeats 4000000 in
theorem indexHg {d : Nat} (H : HgOK d) {ks : List Tr} {w : World} {u : Value} {bl : Nat → Nat} (hu : UnderG w u ks.length bl) (hk : ∀ j, j < ks.length → WfT d (ks.getD j noTr) ∧ TrAt d w (bl j) (ks.getD j noTr)) (hl : ks.length ≤ 3) :
    Calls Tryz.prog 280 #[u, .func (.func 254) #[] #[]] w fun e w' => (∃ r : Int, e = .returned (.int .i64 r) ∧ decide (0 ≤ r) = ks.any (hangsT d)) ∧ Below w.heap.size w w' := by
  obtain ⟨a, cap, rfl, hc⟩ := hu
  have HC : Hid _ := hc
  have HK : Hid _ := hk
  have H0 : Hid (Below w.heap.size w w) := Below.refl _ _
  clear hc hk
  go_enter Tryz.func280, Tryz.ntmps280
  go_wp2_with fail
  go_loopw [8] (fun iv wr => ∃ k : Nat, k ≤ ks.length ∧ iv = .int .i64 k ∧ Hid (Below w.heap.size w wr ∧ (ks.take k).any (hangsT d) = false)) (fun iv _ => ks.length - (intOf iv).toNat)
  case atStart => exact ⟨0, Nat.zero_le _, rfl, H0.out, rfl⟩
  case round =>
    obtain ⟨k, hkk, rfl, HX⟩ := hrel
    by_cases hlt : k < ks.length
    · obtain ⟨hb, hn⟩ := HX.out
      obtain ⟨g, rfl, c⟩ := HC.out k hlt
      have hkb : (0 : Int) ≤ (k : Int) ∧ (k : Int) < (ks.length : Int) := by omega
      have c' : wr.cell? ⟨g, k, none⟩ = some (.pointer (some ⟨bl k, 0, none⟩)) := by rw [hb.cell (p := ⟨g, k, none⟩) (World.block_lt_of_cell? w _ c)]; exact c
      obtain ⟨h1, h2⟩ := HK.out k hlt
      have W1 := H h1 (h2.below hb)
      have HS : Hid ((ks.take (k + 1)).any (hangsT d) = hangsT d (ks.getD k noTr)) := by
        show _ = _
        rw [List.take_add_one, List.getElem?_eq_getElem hlt, List.any_append, hn, List.getD_eq_getElem?_getD, List.getElem?_eq_getElem hlt]
        simp
      have HA : Hid (hangsT d (ks.getD k noTr) = true → ks.any (hangsT d) = true) := fun hh => by
        rw [List.any_eq_true]
        exact ⟨ks.getD k noTr, by rw [List.getD_eq_getElem?_getD, List.getElem?_eq_getElem hlt]; exact List.getElem_mem _, hh⟩
      have HB : Hid _ := hb
      generalize hangsT d (ks.getD k noTr) = hg at *
      clear h1 h2 hb hn HX c
      cases hg with
      | true =>
        have HANY : Hid _ := HA.out rfl
        clear HA
        go_wp2_with fail
        refine W1.mono ?_
        rintro e w2 ⟨rfl, hb2⟩
        have HB2 : Hid (Below w.heap.size w w2) := HB.out.trans (hb2.mono HB.out.size)
        clear W1 hb2
        go_wp2_with fail
        go_ret
        exact ⟨⟨(k : Int), rfl, by rw [HANY.out]; exact decide_eq_true (by omega)⟩, HB2.out⟩
      | false =>
        go_wp2_with fail
        refine W1.mono ?_
        rintro e w2 ⟨rfl, hb2⟩
        have HB2 : Hid (Below w.heap.size w w2) := HB.out.trans (hb2.mono HB.out.size)
        clear W1 hb2
        go_wp2_with fail
        go_roundw
        case rel => exact ⟨k + 1, by omega, by go_num, HB2.out, HS.out⟩
        case measure => simp [intOf]; omega
    · obtain rfl : k = ks.length := by omega
      have HB : Hid _ := HX.out.1
      have hn := HX.out.2
      rw [List.take_of_length_le (Nat.le_refl _)] at hn
      have HN : Hid _ := hn
      clear hn HX
      go_wp2_with fail
      go_ret
      exact ⟨⟨-1, rfl, by rw [HN.out]; decide⟩, HB.out⟩
set_option maxHeartbeats 4000000 in
theorem containsHg {d : Nat} (H : HgOK d) {ks : List Tr} {w : World} {u : Value} {bl : Nat → Nat} (hu : UnderG w u ks.length bl) (hk : ∀ j, j < ks.length → WfT d (ks.getD j noTr) ∧ TrAt d w (bl j) (ks.getD j noTr)) (hl : ks.length ≤ 3) :
    Calls Tryz.prog 270 #[u, .func (.func 254) #[] #[]] w fun e w' => e = .returned (.bool (ks.any (hangsT d))) ∧ Below w.heap.size w w' := by
  have W1 := indexHg H hu hk hl
  clear hu hk
  go_enter Tryz.func270, Tryz.ntmps270
  go_wp2_with fail
  refine W1.mono ?_
  rintro e w2 ⟨⟨r, rfl, hr⟩, hb⟩
  have HB : Hid _ := hb
  have HR : Hid _ := hr
  clear W1 hb hr
  go_wp2_with fail
  go_ret
  exact ⟨by show Ending.returned (.bool (decide (0 ≤ r))) = _; rw [HR.out], HB.out⟩
set_option maxHeartbeats 4000000 in
theorem hangs_ok (d : Nat) : HgOK d := by
  induction d with
  | zero => intro t w b h; exact h.elim
  | succ d ih =>
    intro t w b hw hT
    obtain ⟨pl, nm, u, bl, hcc, hun, HK⟩ := hT
    have hk100 : t.k ≤ 100 := by
      rcases hw.1 with ⟨h1, _⟩ | ⟨h1, _⟩ | ⟨h1, _⟩ | ⟨h1, _⟩
      · unfold leafK at h1; omega
      · omega
      · omega
      · unfold twoK at h1; omega
    have hl3 : t.kids.length ≤ 3 := by
      rcases hw.1 with ⟨_, h2, _⟩ | ⟨_, _, h2⟩ | ⟨_, _, _, _, h2⟩ | ⟨_, _, _, h2⟩ <;> rw [h2] <;> simp
    have W1 := fun w => pfield_any t.k w hk100
    have W2 := fun (w' : World) (hb : Below w.heap.size w w') => containsHg ih (hun.below hb) (fun j hj => ⟨kid_wf hw hj, (HK j hj).below hb⟩) hl3
    have c0 := hcc.c0
    have c4 := hcc.c4
    have HE : Hid (hangsT (d + 1) t = (decide (27 ≤ t.k ∧ t.k ≤ 35) || decide (t.k = 2) || t.kids.any (hangsT d))) := rfl
    rw [HE.out]
    have hB0 := Below.refl w.heap.size w
    clear hw HK hun hcc HE
    generalize t.kids.any (hangsT d) = an at *
    by_cases h27 : 27 ≤ t.k ∧ t.k ≤ 35
    · rw [decide_eq_true h27] at W1 ⊢
      simp only [Bool.true_or]
      clear W2
      generalize (if 27 ≤ t.k ∧ t.k ≤ 35 then t.k - 27 else 0) = fi at *
      clear h27
      generalize t.k = k at *
      go_enter Tryz.func254, Tryz.ntmps254
      go_wp2_with (go_at_call 171; refine (W1 _).mono ?_; rintro e w' ⟨rfl, hw'⟩; have hw2 := hw'.symm; clear hw'; subst hw2)
      go_ret
      exact ⟨rfl, hB0⟩
    · rw [decide_eq_false h27] at W1 ⊢
      simp only [Bool.false_or]
      generalize (if 27 ≤ t.k ∧ t.k ≤ 35 then t.k - 27 else 0) = fi at *
      by_cases h2 : t.k = 2
      · rw [decide_eq_true h2]
        simp only [Bool.true_or]
        rw [h2] at W1 c0
        clear W2 h27
        go_enter Tryz.func254, Tryz.ntmps254
        go_wp2_with (go_at_call 171; refine (W1 _).mono ?_; rintro e w' ⟨rfl, hw'⟩; have hw2 := hw'.symm; clear hw'; subst hw2)
        go_ret
        exact ⟨rfl, hB0⟩
      · rw [decide_eq_false h2]
        simp only [Bool.false_or]
        have i2 : ((t.k : Int) == 2) = false := by simp; omega
        have W3 := W2 w hB0
        clear W2 h27 h2
        generalize t.k = k at *
        go_enter Tryz.func254, Tryz.ntmps254
        go_wp2_with (go_at_call 171; refine (W1 _).mono ?_; rintro e w' ⟨rfl, hw'⟩; have hw2 := hw'.symm; clear hw'; subst hw2)
        refine W3.mono ?_
        rintro e w2 ⟨rfl, hb2⟩
        have HB : Hid _ := hb2
        clear W3 hb2
        go_wp2_with fail
        go_ret
        exact ⟨rfl, HB.out⟩
/-- What does not hang on an event has its type whatever the lets. -/
theorem fixed_ty {lt lt' : List Nat} {d : Nat} : ∀ {t : Tr}, WfT d t → hangsT d t = false → tyTr lt d t = tyTr lt' d t := by
  induction d with
  | zero => intro t h; exact h.elim
  | succ d ih =>
    intro t hw hh
    rw [hangsT] at hh
    simp only [Bool.or_eq_false_iff, decide_eq_false_iff_not] at hh
    obtain ⟨⟨h1, h2⟩, h3⟩ := hh
    have hk : t.kids.map (tyTr lt d) = t.kids.map (tyTr lt' d) := List.map_congr_left fun c hc => ih (hw.2 c hc) (by
      cases e : hangsT d c with
      | false => rfl
      | true => rw [List.any_eq_true.2 ⟨c, hc, e⟩] at h3; cases h3)
    have hwd : wordTy lt t = wordTy lt' t := by unfold wordTy; rw [if_neg h2, if_neg h2]
    simp only [tyTr]
    rw [hk, hwd]
set_option maxHeartbeats 4000000 in
theorem fixed_any {lt : List Nat} {d : Nat} {t : Tr} {w : World} {b : Nat} (hw : WfT d t) (hT : TrAt d w b t) (hty : tyTr lt d t ≠ 0) :
    Calls Tryz.prog 228 #[.pointer (some ⟨b, 0, none⟩)] w fun e w' => (e = .returned (if hangsT d t = true then .tuple #[.int .i64 0, .bool false] else .tuple #[.int .i64 (evT [] zeros9 d t), .bool true])) ∧ Below w.heap.size w w' := by
  have W1 := hangs_ok d hw hT
  cases hh : hangsT d t with
  | true =>
    rw [hh] at W1
    rw [if_pos rfl]
    clear hT
    go_enter Tryz.func228, Tryz.ntmps228
    go_wp2_with fail
    refine W1.mono ?_
    rintro e w1 ⟨rfl, hb⟩
    have HB : Hid _ := hb
    clear W1 hb
    go_wp2_with fail
    go_ret2
    exact ⟨rfl, HB.out⟩
  | false =>
    rw [hh] at W1
    rw [if_neg (by decide)]
    have hty0 : tyTr [] d t ≠ 0 := by rw [fixed_ty (lt := []) (lt' := lt) hw hh]; exact hty
    have HT : Hid _ := hT
    have HW : Hid _ := hw
    clear hT hw hh
    have HP : Hid (∀ w1 : World, Below w.heap.size w w1 → Calls Tryz.prog 78 #[.pointer (some ⟨w1.heap.size, 0, none⟩), .pointer (some ⟨b, 0, none⟩)] (w1.alloc (.cells #[.int .i64 0, .int .i64 0, .int .i64 0, .int .i64 0, .int .i64 0, .int .i64 0, .int .i64 0, .int .i64 0, .int .i64 0, .slice none 0 0] 181)) fun e w' => e = .returned (.int .i64 (evT [] zeros9 d t)) ∧ Below (w1.alloc (.cells #[.int .i64 0, .int .i64 0, .int .i64 0, .int .i64 0, .int .i64 0, .int .i64 0, .int .i64 0, .int .i64 0, .int .i64 0, .slice none 0 0] 181)).heap.size (w1.alloc (.cells #[.int .i64 0, .int .i64 0, .int .i64 0, .int .i64 0, .int .i64 0, .int .i64 0, .int .i64 0, .int .i64 0, .int .i64 0, .slice none 0 0] 181)) w') := fun w1 hb => by
      have hbl := heap_alloc_new w1 (.cells #[.int .i64 0, .int .i64 0, .int .i64 0, .int .i64 0, .int .i64 0, .int .i64 0, .int .i64 0, .int .i64 0, .int .i64 0, .slice none 0 0] 181)
      have hbA : Below w1.heap.size w1 (w1.alloc (.cells #[.int .i64 0, .int .i64 0, .int .i64 0, .int .i64 0, .int .i64 0, .int .i64 0, .int .i64 0, .int .i64 0, .int .i64 0, .slice none 0 0] 181)) := (Below.refl _ _).alloc (Nat.le_refl _) _
      refine ptell_any (lt := []) (lv := []) (fl := zeros9) (fun i hi => by simp at hi) zeros_fields (by simp) (by simp) (a := none) (cap := 0) ((HT.out.below hb).below hbA) HW.out hty0 ⟨fun i hi => ?_, cell_of_row _ _ 9 _ _ _ hbl⟩ (fun j hj => by simp at hj)
      rw [cell_of_row _ _ i _ _ _ hbl]
      have e9 : i = 0 ∨ i = 1 ∨ i = 2 ∨ i = 3 ∨ i = 4 ∨ i = 5 ∨ i = 6 ∨ i = 7 ∨ i = 8 := by omega
      rcases e9 with rfl | rfl | rfl | rfl | rfl | rfl | rfl | rfl | rfl <;> rfl
    generalize evT [] zeros9 d t = ev at *
    go_enter Tryz.func228, Tryz.ntmps228
    go_wp2_with fail
    refine W1.mono ?_
    rintro e w1 ⟨rfl, hb⟩
    have W2 := HP.out w1 hb
    have HB : Hid _ := hb
    clear W1 hb HP
    go_wp2_with fail
    refine W2.mono ?_
    rintro e w2 ⟨rfl, hb2⟩
    have HB2 : Hid (Below w.heap.size w w2) := HB.out.trans ((((Below.refl _ _).alloc (Nat.le_refl _) _).trans (hb2.mono (by simp))).mono HB.out.size)
    clear W2 hb2
    go_wp2_with fail
    go_ret2
    exact ⟨rfl, HB2.out⟩
end Go.Proofs.YtfkdailfcmnjlaaGreatDoor

namespace Go.Proofs.YtfkdailfcmnjlaaGreatDoor
open Go Go.RowKit
set_option maxRecDepth 100000
attribute [local go_sem ↓] Go.wp_at_zero Go.wp_at_succ

theorem trF_kind {F : Nat → Prop} {d : Nat} {w : World} {b : Nat} {t : Tr} (h : TrF F d w b t) : w.cell? ⟨b, 0, none⟩ = some (.int .i64 t.k) := by
  cases d with
  | zero => exact h.elim
  | succ d => obtain ⟨_, _, _, _, _, h1, _⟩ := h; exact h1.c0
/-- Is a pass asked for? -/
def bitB (n : Int) (k : Nat) : Bool := bits .and .i64 n k != 0
def passOf (n : Int) : Pass := ⟨bitB n 1, bitB n 2, bitB n 4, bitB n 8⟩
set_option maxHeartbeats 4000000 in
theorem does_any {w : World} {rp : Nat} {n : Int} (k : Nat) (hc : w.cell? ⟨rp, 0, none⟩ = some (.int .i64 n)) : Calls Tryz.prog 130 #[.pointer (some ⟨rp, 0, none⟩), .int .i64 k] w fun e w' => e = .returned (.bool (bitB n k)) ∧ w' = w := by
  go_enter Tryz.func130, Tryz.ntmps130
  go_wp2_with fail
  go_ret
  exact ⟨rfl, rfl⟩
/-- A part with two kids, its cells and theirs. -/
theorem two_cells {F : Nat → Prop} {d : Nat} {t : Tr} {w : World} {b : Nat} (hT : TrF F (d + 1) w b t) {n : Nat} (hn : t.kids.length = n) (h0 : 0 < n) : ∃ (g cap : Nat) (bl : Nat → Nat), w.cell? ⟨b, 0, none⟩ = some (.int .i64 t.k) ∧ w.cell? ⟨b, 4, none⟩ = some (.slice (some ⟨g, 0, none⟩) n cap) ∧ (∀ j, j < n → w.cell? ⟨g, j, none⟩ = some (.pointer (some ⟨bl j, 0, none⟩))) ∧ (∀ j, j < n → w.cell? ⟨bl j, 0, none⟩ = some (.int .i64 (t.kid j).k)) ∧ ∀ j, j < n → TrF F d w (bl j) (t.kid j) := by
  obtain ⟨pl, nm, u, bl, hFb, hcc, hun, HK⟩ := hT
  obtain ⟨a, cap, rfl, hc⟩ := hun
  obtain ⟨g, rfl, _, q0⟩ := hc 0 (by omega)
  refine ⟨g, cap, bl, hcc.c0, by rw [hcc.c4, hn], fun j hj => ?_, fun j hj => trF_kind (HK j (by omega)), fun j hj => HK j (by omega)⟩
  obtain ⟨g', e, _, c⟩ := hc j (by omega)
  simp only [Option.some.injEq, Addr.mk.injEq, and_true] at e
  rw [e]; exact c
set_option maxHeartbeats 4000000 in
theorem decided_any {F : Nat → Prop} {d : Nat} {t : Tr} {w : World} {b : Nat} (s i : Nat) (hl2 : t.kids.length = 2) (hT : TrF F (d + 1) w b t) :
    Calls Tryz.prog 229 #[.pointer (some ⟨b, 0, none⟩), .int .i64 s, .int .i64 i] w fun e w' => (∃ b', e = .returned (.pointer (some ⟨b', 0, none⟩)) ∧ TrF F (d + 1) w' b' (decidedT t s i)) ∧ Below w.heap.size w w' := by
  have HT : Hid (TrF F (d + 1) w b t) := hT
  obtain ⟨g, cap, bl, _, c4, hq, hk, HK⟩ := two_cells hT hl2 (by decide)
  have q0 := hq 0 (by decide)
  have q1 := hq 1 (by decide)
  have k0 := hk 0 (by decide)
  have k1 := hk 1 (by decide)
  have HK0 : Hid (TrF F (d + 1) w (bl 0) (t.kid 0)) := (HK 0 (by decide)).up (e := d + 1) (by omega)
  have HK1 : Hid (TrF F (d + 1) w (bl 1) (t.kid 1)) := (HK 1 (by decide)).up (e := d + 1) (by omega)
  have hD : Below w.heap.size w w.drew := (Below.refl _ _).drew
  have HD : Hid _ := hD
  have HE : Hid (decidedT t s i = if (t.kid 0).k = s ∨ (t.kid 1).k = i then t.kid 0 else if (t.kid 1).k = s ∨ (t.kid 0).k = i then t.kid 1 else t) := rfl
  rw [HE.out]
  have hS0 : w.cell? ⟨b, 4, none⟩ = some (.slice (some ⟨g, 0, none⟩) 2 cap) ∧ w.cell? ⟨g, 0, none⟩ = some (.pointer (some ⟨bl 0, 0, none⟩)) ∧ w.cell? ⟨g, 1, none⟩ = some (.pointer (some ⟨bl 1, 0, none⟩)) := ⟨c4, q0, q1⟩
  clear HE hT hq hk HK hD hl2
  generalize hka : (t.kid 0).k = ka at *
  generalize hkb : (t.kid 1).k = kb at *
  clear hka hkb
  by_cases h1 : ka = s ∨ kb = i
  · rw [if_pos h1]
    by_cases ha : ka = s
    · have i1 : ((ka : Int) == (s : Int)) = true := by simp; omega
      clear h1 ha
      go_enter Tryz.func229, Tryz.ntmps229
      go_wp2_with fail
      go_region_held3 (fun W => W.cell? ⟨b, 4, none⟩ = some (.slice (some ⟨g, 0, none⟩) 2 cap) ∧ W.cell? ⟨g, 0, none⟩ = some (.pointer (some ⟨bl 0, 0, none⟩)) ∧ W.cell? ⟨g, 1, none⟩ = some (.pointer (some ⟨bl 1, 0, none⟩))) (first | assumption | exact hS0 | go_keep) (fail)
      all_goals
        go_wp2_with fail
        go_ret
        exact ⟨⟨_, rfl, TrF.below HK0.out HD.out⟩, HD.out⟩
    · have i1 : ((ka : Int) == (s : Int)) = false := by simp; omega
      have i2 : ((kb : Int) == (i : Int)) = true := by simp; omega
      clear h1 ha
      go_enter Tryz.func229, Tryz.ntmps229
      go_wp2_with fail
      go_region_held3 (fun W => W.cell? ⟨b, 4, none⟩ = some (.slice (some ⟨g, 0, none⟩) 2 cap) ∧ W.cell? ⟨g, 0, none⟩ = some (.pointer (some ⟨bl 0, 0, none⟩)) ∧ W.cell? ⟨g, 1, none⟩ = some (.pointer (some ⟨bl 1, 0, none⟩))) (first | assumption | exact hS0 | go_keep) (fail)
      all_goals
        go_wp2_with fail
        go_ret
        exact ⟨⟨_, rfl, TrF.below HK0.out HD.out⟩, HD.out⟩
  · rw [if_neg h1]
    have i1 : ((ka : Int) == (s : Int)) = false := by simp; omega
    have i2 : ((kb : Int) == (i : Int)) = false := by simp; omega
    by_cases h2 : kb = s ∨ ka = i
    · rw [if_pos h2]
      by_cases ha : kb = s
      · have i3 : ((kb : Int) == (s : Int)) = true := by simp; omega
        clear h1 h2 ha
        go_enter Tryz.func229, Tryz.ntmps229
        go_wp2_with fail
        go_region_held3 (fun W => W.cell? ⟨b, 4, none⟩ = some (.slice (some ⟨g, 0, none⟩) 2 cap) ∧ W.cell? ⟨g, 0, none⟩ = some (.pointer (some ⟨bl 0, 0, none⟩)) ∧ W.cell? ⟨g, 1, none⟩ = some (.pointer (some ⟨bl 1, 0, none⟩))) (first | assumption | exact hS0 | go_keep) (fail)
        all_goals
          go_wp2_with fail
          go_ret
          exact ⟨⟨_, rfl, TrF.below HK1.out HD.out⟩, HD.out⟩
      · have i3 : ((kb : Int) == (s : Int)) = false := by simp; omega
        have i4 : ((ka : Int) == (i : Int)) = true := by simp; omega
        clear h1 h2 ha
        go_enter Tryz.func229, Tryz.ntmps229
        go_wp2_with fail
        go_region_held3 (fun W => W.cell? ⟨b, 4, none⟩ = some (.slice (some ⟨g, 0, none⟩) 2 cap) ∧ W.cell? ⟨g, 0, none⟩ = some (.pointer (some ⟨bl 0, 0, none⟩)) ∧ W.cell? ⟨g, 1, none⟩ = some (.pointer (some ⟨bl 1, 0, none⟩))) (first | assumption | exact hS0 | go_keep) (fail)
        all_goals
          go_wp2_with fail
          go_ret
          exact ⟨⟨_, rfl, TrF.below HK1.out HD.out⟩, HD.out⟩
    · rw [if_neg h2]
      have i3 : ((kb : Int) == (s : Int)) = false := by simp; omega
      have i4 : ((ka : Int) == (i : Int)) = false := by simp; omega
      clear h1 h2
      go_enter Tryz.func229, Tryz.ntmps229
      go_wp2_with fail
      go_region_held3 (fun W => W.cell? ⟨b, 4, none⟩ = some (.slice (some ⟨g, 0, none⟩) 2 cap) ∧ W.cell? ⟨g, 0, none⟩ = some (.pointer (some ⟨bl 0, 0, none⟩)) ∧ W.cell? ⟨g, 1, none⟩ = some (.pointer (some ⟨bl 1, 0, none⟩))) (first | assumption | exact hS0 | go_keep) (fail)
      all_goals
        go_wp2_with fail
        go_ret
        exact ⟨⟨_, rfl, TrF.below HT.out HD.out⟩, HD.out⟩
set_option maxHeartbeats 4000000 in
theorem prune_any {F : Nat → Prop} {d : Nat} {t : Tr} {w : World} {b : Nat} (hw : WfT (d + 1) t) (hT : TrF F (d + 1) w b t) :
    Calls Tryz.prog 176 #[.pointer (some ⟨b, 0, none⟩)] w fun e w' => (∃ b', e = .returned (.pointer (some ⟨b', 0, none⟩)) ∧ TrF F (d + 1) w' b' (pruneT t)) ∧ Below w.heap.size w w' := by
  have HT : Hid (TrF F (d + 1) w b t) := hT
  have kk := trF_kind hT
  have hB0 : Below w.heap.size w w := Below.refl _ _
  by_cases h19 : t.k = 19
  · have hl1 : t.kids.length = 1 := by
      rcases hw.1 with ⟨h1, _⟩ | ⟨_, _, h4⟩ | ⟨h1, _⟩ | ⟨h1, _⟩
      · unfold leafK at h1; omega
      · rw [h4]; rfl
      · omega
      · unfold twoK at h1; omega
    obtain ⟨g, cap, bl, _, c4, hq, hk, HK⟩ := two_cells hT hl1 (by decide)
    have q0 := hq 0 (by decide)
    have k0 := hk 0 (by decide)
    have HK0 := HK 0 (by decide)
    have hw0 := kid_wf hw (j := 0) (by omega)
    have HE : Hid (pruneT t = if (t.kid 0).k = 19 then (t.kid 0).kid 0 else t) := by show pruneT t = _; unfold pruneT; rw [if_pos h19]
    rw [HE.out]
    rw [h19] at kk
    clear HE hq hk HK hl1 hw hT h19
    by_cases h2 : (t.kid 0).k = 19
    · rw [if_pos h2]
      rw [h2] at k0
      cases d with
      | zero => exact hw0.elim
      | succ d =>
        have hl1 : (t.kid 0).kids.length = 1 := by
          rcases hw0.1 with ⟨h1, _⟩ | ⟨_, _, h4⟩ | ⟨h1, _⟩ | ⟨h1, _⟩
          · unfold leafK at h1; omega
          · rw [h4]; rfl
          · omega
          · unfold twoK at h1; omega
        obtain ⟨g2, cap2, bl2, _, e4, hq2, _, HK2⟩ := two_cells HK0 hl1 (by decide)
        have q2 := hq2 0 (by decide)
        have HF : Hid _ := (HK2 0 (by decide)).up (e := d + 1 + 1) (by omega)
        clear HK0 HK2 hq2 hl1 hw0 h2
        go_enter Tryz.func176, Tryz.ntmps176
        go_wp2_with fail
        go_ret
        exact ⟨⟨_, rfl, HF.out⟩, hB0⟩
    · rw [if_neg h2]
      have i2 : (((t.kid 0).k : Int) == 19) = false := by simp; omega
      clear HK0 hw0 h2
      generalize (t.kid 0).k = k2 at *
      go_enter Tryz.func176, Tryz.ntmps176
      go_wp2_with fail
      go_ret
      exact ⟨⟨_, rfl, HT.out⟩, hB0⟩
  · have i19 : ((t.k : Int) == 19) = false := by simp; omega
    by_cases h18 : t.k = 18
    · have hl2 : t.kids.length = 2 := by
        rcases hw.1 with ⟨h1, _⟩ | ⟨h1, _⟩ | ⟨h1, _⟩ | ⟨_, _, _, h2⟩
        · unfold leafK at h1; omega
        · omega
        · omega
        · rw [h2]; rfl
      have W1 := decided_any 21 20 hl2 hT
      have HE : Hid (pruneT t = decidedT t 21 20) := by show pruneT t = _; unfold pruneT; rw [if_neg h19, if_pos h18]
      rw [HE.out]
      rw [h18] at kk i19
      clear HE hw hT h19 h18 hl2
      go_enter Tryz.func176, Tryz.ntmps176
      go_wp2_with fail
      refine W1.mono ?_
      rintro e w1 ⟨⟨b', rfl, h1⟩, h2⟩
      have H1 : Hid _ := And.intro h1 h2
      clear W1 h1 h2
      go_wp2_with fail
      go_ret
      exact ⟨⟨_, rfl, H1.out.1⟩, H1.out.2⟩
    · have i18 : ((t.k : Int) == 18) = false := by simp; omega
      by_cases h17 : t.k = 17
      · have hl2 : t.kids.length = 2 := by
          rcases hw.1 with ⟨h1, _⟩ | ⟨h1, _⟩ | ⟨h1, _⟩ | ⟨_, _, _, h2⟩
          · unfold leafK at h1; omega
          · omega
          · omega
          · rw [h2]; rfl
        have W1 := decided_any 20 21 hl2 hT
        have HE : Hid (pruneT t = decidedT t 20 21) := by show pruneT t = _; unfold pruneT; rw [if_neg h19, if_neg h18, if_pos h17]
        rw [HE.out]
        rw [h17] at kk i19 i18
        clear HE hw hT h19 h18 h17 hl2
        go_enter Tryz.func176, Tryz.ntmps176
        go_wp2_with fail
        refine W1.mono ?_
        rintro e w1 ⟨⟨b', rfl, h1⟩, h2⟩
        have H1 : Hid _ := And.intro h1 h2
        clear W1 h1 h2
        go_wp2_with fail
        go_ret
        exact ⟨⟨_, rfl, H1.out.1⟩, H1.out.2⟩
      · have i17 : ((t.k : Int) == 17) = false := by simp; omega
        have HE : Hid (pruneT t = t) := by show pruneT t = _; unfold pruneT; rw [if_neg h19, if_neg h18, if_neg h17]
        rw [HE.out]
        clear HE hw hT h19 h18 h17
        generalize t.k = k at *
        go_enter Tryz.func176, Tryz.ntmps176
        go_wp2_with fail
        go_ret
        exact ⟨⟨_, rfl, HT.out⟩, hB0⟩
set_option maxHeartbeats 4000000 in
theorem chosen_any {F : Nat → Prop} {d : Nat} {t : Tr} {w : World} {b : Nat} (hw : WfT (d + 1) t) (hk : t.k = 14) (hT : TrF F (d + 1) w b t) :
    Calls Tryz.prog 227 #[.pointer (some ⟨b, 0, none⟩)] w fun e w' => (∃ b', e = .returned (.pointer (some ⟨b', 0, none⟩)) ∧ TrF F (d + 1) w b' (chosenT t)) ∧ w' = w := by
  have hl3 : t.kids.length = 3 := by
    rcases hw.1 with ⟨h1, _⟩ | ⟨h1, _⟩ | ⟨_, _, _, _, h2⟩ | ⟨h1, _⟩
    · unfold leafK at h1; omega
    · omega
    · rw [h2]; rfl
    · unfold twoK at h1; omega
  have HT : Hid _ := hT
  obtain ⟨pl, nm, u, bl, hFb, hcc, hun, HK⟩ := hT
  obtain ⟨a, cap, rfl, hc⟩ := hun
  obtain ⟨g, rfl, _, q0⟩ := hc 0 (by omega)
  have hq : ∀ j, j < 3 → w.cell? ⟨g, j, none⟩ = some (.pointer (some ⟨bl j, 0, none⟩)) := fun j hj => by
    obtain ⟨g', e, _, c⟩ := hc j (by omega)
    simp only [Option.some.injEq, Addr.mk.injEq, and_true] at e
    rw [e]; exact c
  have q1 := hq 1 (by omega)
  have q2 := hq 2 (by omega)
  have c4 := hcc.c4
  rw [hl3] at c4
  have k0 := trF_kind (HK 0 (by omega))
  have HK1 : Hid _ := (HK 1 (by omega)).up (e := d + 1) (by omega)
  have HK2 : Hid _ := (HK 2 (by omega)).up (e := d + 1) (by omega)
  have HE : Hid (chosenT t = if (t.kid 0).k = 20 then t.kid 1 else if (t.kid 0).k = 21 then t.kid 2 else t) := rfl
  rw [HE.out]
  clear HE hw hk hcc hc hq HK hl3
  by_cases h20 : (t.kid 0).k = 20
  · rw [if_pos h20]
    rw [h20] at k0
    clear h20
    go_enter Tryz.func227, Tryz.ntmps227
    go_wp2_with fail
    go_ret
    exact ⟨⟨_, rfl, HK1.out⟩, rfl⟩
  · rw [if_neg h20]
    have i20 : (((t.kid 0).k : Int) == 20) = false := by simp; omega
    by_cases h21 : (t.kid 0).k = 21
    · rw [if_pos h21]
      rw [h21] at k0
      clear h20 h21 i20
      go_enter Tryz.func227, Tryz.ntmps227
      go_wp2_with fail
      go_ret
      exact ⟨⟨_, rfl, HK2.out⟩, rfl⟩
    · rw [if_neg h21]
      have i21 : (((t.kid 0).k : Int) == 21) = false := by simp; omega
      clear h20 h21
      generalize (t.kid 0).k = kk at *
      go_enter Tryz.func227, Tryz.ntmps227
      go_wp2_with fail
      go_ret
      exact ⟨⟨_, rfl, HT.out⟩, rfl⟩
end Go.Proofs.YtfkdailfcmnjlaaGreatDoor

namespace Go.Proofs.YtfkdailfcmnjlaaGreatDoor
open Go Go.RowKit
set_option maxRecDepth 100000
attribute [local go_sem ↓] Go.wp_at_zero Go.wp_at_succ

/-- The rewriter in memory. -/
structure RwAt (F : Nat → Prop) (w : World) (rp : Nat) (n : Int) (lv : Value) (bl : Nat → Nat) (D : Nat) (lets : List Tr) : Prop where
  c0 : w.cell? ⟨rp, 0, none⟩ = some (.int .i64 n)
  c1 : w.cell? ⟨rp, 1, none⟩ = some lv
  un : UnF (fun _ => False) w lv lets.length bl
  tr : ∀ j, j < lets.length → TrF F D w (bl j) (lets.getD j noTr)
theorem RwAt.below {F : Nat → Prop} {w w' : World} {rp : Nat} {n : Int} {lv : Value} {bl : Nat → Nat} {D : Nat} {lets : List Tr} (h : RwAt F w rp n lv bl D lets) (hb : Below w.heap.size w w') : RwAt F w' rp n lv bl D lets :=
  ⟨by rw [hb.cell (p := ⟨rp, 0, none⟩) (World.block_lt_of_cell? w _ h.c0)]; exact h.c0, by rw [hb.cell (p := ⟨rp, 1, none⟩) (World.block_lt_of_cell? w _ h.c1)]; exact h.c1, h.un.below hb, fun j hj => (h.tr j hj).below hb⟩
theorem trF_leaf {F : Nat → Prop} {d e : Nat} {w : World} {b : Nat} {t : Tr} (h : TrF F d w b t) (hk : t.kids = []) : TrF F (e + 1) w b t := by
  cases d with
  | zero => exact h.elim
  | succ d =>
    obtain ⟨pl, nm, u, bl, h0, h1, h2, _⟩ := h
    exact ⟨pl, nm, u, bl, h0, h1, h2, fun j hj => by rw [hk] at hj; simp at hj⟩
theorem trF_under {F : Nat → Prop} {d : Nat} {w : World} {b : Nat} {t : Tr} (h : TrF F d w b t) : ∃ a cap, w.cell? ⟨b, 4, none⟩ = some (.slice a t.kids.length cap) := by
  cases d with
  | zero => exact h.elim
  | succ d =>
    obtain ⟨pl, nm, u, bl, _, h1, ⟨a, cap, rfl, _⟩, _⟩ := h
    exact ⟨a, cap, h1.c4⟩
set_option maxHeartbeats 4000000 in
theorem inline_any {F : Nat → Prop} {d D : Nat} {t : Tr} {w : World} {b rp : Nat} {n : Int} {lv : Value} {bl : Nat → Nat} {lets : List Tr} (hR : RwAt F w rp n lv bl D lets) (hT : TrF F (d + 1) w b t) (h2 : t.k = 2 → 0 ≤ t.l ∧ t.l.toNat < lets.length) (hll : lets.length ≤ 1000) :
    Calls Tryz.prog 174 #[.pointer (some ⟨rp, 0, none⟩), .pointer (some ⟨b, 0, none⟩)] w fun e w' => (∃ b', e = .returned (.pointer (some ⟨b', 0, none⟩)) ∧ TrF F (d + 1) w' b' (inlineT lets t)) ∧ Below w.heap.size w w' := by
  have HT : Hid (TrF F (d + 1) w b t) := hT
  have kk := trF_kind hT
  have HD : Hid (Below w.heap.size w w.drew) := (Below.refl _ _).drew
  have HDD : Hid (Below w.heap.size w w.drew.drew) := (Below.refl _ _).drew.drew
  have HE : Hid (inlineT lets t = if t.k = 2 ∧ (lets.getD t.l.toNat noTr).kids = [] then lets.getD t.l.toNat noTr else t) := rfl
  rw [HE.out]
  by_cases hk : t.k = 2
  · obtain ⟨hl0, hl1⟩ := h2 hk
    obtain ⟨_, _, _, _, _, hcc, _, _⟩ := hT
    have c5 := hcc.c5
    have e : t.l = (t.l.toNat : Int) := by omega
    have c1 := hR.c1
    obtain ⟨a, cap, hlv, hq⟩ := hR.un
    obtain ⟨g, rfl, _, q⟩ := hq t.l.toNat hl1
    rw [hlv] at c1
    have hTl := hR.tr t.l.toNat hl1
    obtain ⟨a2, cap2, u2⟩ := trF_under hTl
    have HL : Hid (∀ e, (lets.getD t.l.toNat noTr).kids = [] → TrF F (e + 1) w (bl t.l.toNat) (lets.getD t.l.toNat noTr)) := fun e hk => trF_leaf hTl hk
    generalize lets.getD t.l.toNat noTr = tl at *
    generalize t.l.toNat = li at *
    rw [hk] at kk
    rw [e] at c5
    have hib : (0 : Int) ≤ (li : Int) ∧ (li : Int) < (lets.length : Int) := by omega
    have hS0 : w.cell? ⟨b, 0, none⟩ = some (.int .i64 ((2 : Nat) : Int)) ∧ w.cell? ⟨rp, 1, none⟩ = some (.slice (some ⟨g, 0, none⟩) lets.length cap) ∧ w.cell? ⟨b, 5, none⟩ = some (.int .i64 (li : Nat)) ∧ w.cell? ⟨g, li, none⟩ = some (.pointer (some ⟨bl li, 0, none⟩)) ∧ w.cell? ⟨bl li, 4, none⟩ = some (.slice a2 tl.kids.length cap2) := ⟨kk, c1, c5, q, u2⟩
    have hS1 : w.drew.cell? ⟨b, 0, none⟩ = some (.int .i64 ((2 : Nat) : Int)) ∧ w.drew.cell? ⟨rp, 1, none⟩ = some (.slice (some ⟨g, 0, none⟩) lets.length cap) ∧ w.drew.cell? ⟨b, 5, none⟩ = some (.int .i64 (li : Nat)) ∧ w.drew.cell? ⟨g, li, none⟩ = some (.pointer (some ⟨bl li, 0, none⟩)) ∧ w.drew.cell? ⟨bl li, 4, none⟩ = some (.slice a2 tl.kids.length cap2) := hS0
    clear HE hR hcc hq h2 hTl e hl0 hlv
    by_cases h0 : tl.kids = []
    · rw [if_pos ⟨hk, h0⟩]
      have HLL : Hid _ := HL.out d h0
      have hz : tl.kids.length = 0 := by rw [h0]; rfl
      rw [hz] at hS0 hS1
      clear kk c1 c5 q u2 hk h0 hz HL
      go_enter Tryz.func174, Tryz.ntmps174
      go_wp2_with fail
      go_region_held3 (fun W => W.cell? ⟨b, 0, none⟩ = some (.int .i64 ((2 : Nat) : Int)) ∧ W.cell? ⟨rp, 1, none⟩ = some (.slice (some ⟨g, 0, none⟩) lets.length cap) ∧ W.cell? ⟨b, 5, none⟩ = some (.int .i64 (li : Nat)) ∧ W.cell? ⟨g, li, none⟩ = some (.pointer (some ⟨bl li, 0, none⟩)) ∧ W.cell? ⟨bl li, 4, none⟩ = some (.slice a2 0 cap2)) (first | assumption | exact hS0 | exact hS1 | go_keep) (fail)
      all_goals
        go_wp2_with fail
        go_region_held3 (fun W => W.cell? ⟨b, 0, none⟩ = some (.int .i64 ((2 : Nat) : Int)) ∧ W.cell? ⟨rp, 1, none⟩ = some (.slice (some ⟨g, 0, none⟩) lets.length cap) ∧ W.cell? ⟨b, 5, none⟩ = some (.int .i64 (li : Nat)) ∧ W.cell? ⟨g, li, none⟩ = some (.pointer (some ⟨bl li, 0, none⟩)) ∧ W.cell? ⟨bl li, 4, none⟩ = some (.slice a2 0 cap2)) (first | assumption | exact hS0 | exact hS1 | go_keep) (fail)
        all_goals
          go_wp2_with fail
          go_ret
          exact ⟨⟨_, rfl, TrF.below HLL.out HDD.out⟩, HDD.out⟩
    · rw [if_neg (fun h => h0 h.2)]
      have i0 : ((tl.kids.length : Int) == 0) = false := by
        have : tl.kids.length ≠ 0 := fun e => h0 (List.eq_nil_of_length_eq_zero e)
        simp; omega
      clear kk c1 c5 q u2 hk h0 HL
      generalize tl.kids.length = tn at *
      go_enter Tryz.func174, Tryz.ntmps174
      go_wp2_with fail
      go_region_held3 (fun W => W.cell? ⟨b, 0, none⟩ = some (.int .i64 ((2 : Nat) : Int)) ∧ W.cell? ⟨rp, 1, none⟩ = some (.slice (some ⟨g, 0, none⟩) lets.length cap) ∧ W.cell? ⟨b, 5, none⟩ = some (.int .i64 (li : Nat)) ∧ W.cell? ⟨g, li, none⟩ = some (.pointer (some ⟨bl li, 0, none⟩)) ∧ W.cell? ⟨bl li, 4, none⟩ = some (.slice a2 tn cap2)) (first | assumption | exact hS0 | exact hS1 | go_keep) (fail)
      all_goals
        go_wp2_with fail
        go_ret
        exact ⟨⟨_, rfl, TrF.below HT.out HD.out⟩, HD.out⟩
  · rw [if_neg (fun h => hk h.1)]
    have i2 : ((t.k : Int) == 2) = false := by simp; omega
    clear HE hR hT h2 hk
    generalize t.k = k at *
    go_enter Tryz.func174, Tryz.ntmps174
    go_wp2_with fail
    go_region
    all_goals
      go_wp2_with fail
      go_ret
      exact ⟨⟨_, rfl, TrF.below HT.out HD.out⟩, HD.out⟩
/-- A word that is made. -/
theorem leaf_new {F : Nat → Prop} {e : Nat} (w : World) (hF : ¬ F w.heap.size) (k : Nat) (n : Int) : TrF F (e + 1) (w.alloc (.cells #[.int .i64 (k : Nat), .int .i64 0, .int .i64 n, .string ⟨#[]⟩, .slice none 0 0, .int .i64 0] 229)) w.heap.size ⟨k, n, 0, []⟩ := by
  have hb := heap_alloc_new w (.cells #[.int .i64 (k : Nat), .int .i64 0, .int .i64 n, .string ⟨#[]⟩, .slice none 0 0, .int .i64 0] 229)
  have hc := fun j => cell_of_row _ _ j _ _ _ hb
  exact ⟨0, [], .slice none 0 0, fun _ => 0, hF, ⟨hc 0, hc 1, hc 2, hc 3, hc 4, hc 5⟩, ⟨none, 0, rfl, fun j hj => by simp at hj⟩, fun j hj => by simp at hj⟩
set_option maxHeartbeats 4000000 in
theorem fold_any {F : Nat → Prop} {lt : List Nat} {d : Nat} {t : Tr} {w : World} {b : Nat} (hF : ∀ g, F g → g < w.heap.size) (hw : WfT (d + 1) t) (hT : TrF F (d + 1) w b t) (hty : tyTr lt (d + 1) t ≠ 0) :
    Calls Tryz.prog 175 #[.pointer (some ⟨b, 0, none⟩)] w fun e w' => (∃ b', e = .returned (.pointer (some ⟨b', 0, none⟩)) ∧ TrF F (d + 1) w' b' (foldT (d + 1) t)) ∧ Below w.heap.size w w' := by
  have HT : Hid (TrF F (d + 1) w b t) := hT
  have kk := trF_kind hT
  have hB0 : Below w.heap.size w w := Below.refl _ _
  by_cases h14 : t.k = 14
  · have W1 := chosen_any hw h14 hT
    have HE : Hid (foldT (d + 1) t = chosenT t) := by show foldT (d + 1) t = _; unfold foldT; rw [if_pos h14]
    rw [HE.out]
    rw [h14] at kk
    clear HE hw hT hty h14
    go_enter Tryz.func175, Tryz.ntmps175
    go_wp2_with fail
    refine W1.mono ?_
    rintro e w1 ⟨⟨b', rfl, h1⟩, h2⟩
    have h3 := h2.symm
    clear h2
    subst h3
    have H1 : Hid _ := h1
    clear W1 h1
    go_wp2_with fail
    go_ret
    exact ⟨⟨_, rfl, H1.out⟩, hB0⟩
  · have i14 : ((t.k : Int) == 14) = false := by simp; omega
    have W1 := fixed_any hw hT.tr hty
    obtain ⟨a, cap, c4⟩ := trF_under hT
    have HE : Hid (foldT (d + 1) t = if hangsT (d + 1) t = true ∨ t.kids = [] then t else if t.k = 6 ∨ t.k = 7 then ⟨1, evT [] zeros9 (d + 1) t, 0, []⟩ else if evT [] zeros9 (d + 1) t = 1 then ⟨20, 0, 0, []⟩ else ⟨21, 0, 0, []⟩) := by show foldT (d + 1) t = _; unfold foldT; rw [if_neg h14]
    rw [HE.out]
    have hlen : (t.kids = [] ↔ t.kids.length = 0) := ⟨fun e => by rw [e]; rfl, fun e => List.eq_nil_of_length_eq_zero e⟩
    by_cases hh : hangsT (d + 1) t = true
    · rw [if_pos (Or.inl hh)]
      rw [if_pos hh] at W1
      clear HE hw hT hty h14 hlen hh
      generalize t.kids.length = nk at *
      generalize t.k = k at *
      go_enter Tryz.func175, Tryz.ntmps175
      go_wp2_with fail
      refine W1.mono ?_
      rintro e w1 ⟨rfl, hb⟩
      have HB : Hid _ := hb
      clear W1 hb
      go_wp2_with fail
      go_ret
      exact ⟨⟨_, rfl, TrF.below HT.out HB.out⟩, HB.out⟩
    · rw [if_neg hh] at W1
      by_cases h0 : t.kids = []
      · rw [if_pos (Or.inr h0)]
        have hz := hlen.1 h0
        rw [hz] at c4
        clear HE hw hT hty h14 hlen hh h0 hz
        generalize evT [] zeros9 (d + 1) t = ev at *
        generalize t.k = k at *
        go_enter Tryz.func175, Tryz.ntmps175
        go_wp2_with fail
        refine W1.mono ?_
        rintro e w1 ⟨rfl, hb⟩
        have c4' : w1.cell? ⟨b, 4, none⟩ = some (.slice a 0 cap) := by rw [hb.cell (p := ⟨b, 4, none⟩) (World.block_lt_of_cell? w _ c4)]; exact c4
        have HB : Hid _ := hb
        clear W1 hb c4
        go_wp2_with fail
        go_ret
        exact ⟨⟨_, rfl, TrF.below HT.out HB.out⟩, HB.out⟩
      · rw [if_neg (fun h => h.elim hh h0)]
        have i0 : ((t.kids.length : Int) == 0) = false := by
          have : t.kids.length ≠ 0 := fun e => h0 (hlen.2 e)
          simp; omega
        clear HE hw hT hty h14 hlen hh h0 HT
        generalize t.kids.length = nk at *
        generalize evT [] zeros9 (d + 1) t = ev at *
        generalize t.k = k at *
        by_cases h6 : k = 6 ∨ k = 7
        · rw [if_pos h6]
          rcases h6 with rfl | rfl
          · go_enter Tryz.func175, Tryz.ntmps175
            go_wp2_with fail
            refine W1.mono ?_
            rintro e w1 ⟨rfl, hb⟩
            have c4' : w1.cell? ⟨b, 4, none⟩ = some (.slice a nk cap) := by rw [hb.cell (p := ⟨b, 4, none⟩) (World.block_lt_of_cell? w _ c4)]; exact c4
            have kk' : w1.cell? ⟨b, 0, none⟩ = some (.int .i64 ((6 : Nat) : Int)) := by rw [hb.cell (p := ⟨b, 0, none⟩) (World.block_lt_of_cell? w _ kk)]; exact kk
            have HB : Hid _ := hb
            clear W1 hb c4 kk
            go_wp2_with fail
            go_ret
            exact ⟨⟨_, rfl, leaf_new w1 (fun x => by have := hF _ x; have := HB.out.size; omega) 1 ev⟩, HB.out.alloc HB.out.size _⟩
          · go_enter Tryz.func175, Tryz.ntmps175
            go_wp2_with fail
            refine W1.mono ?_
            rintro e w1 ⟨rfl, hb⟩
            have c4' : w1.cell? ⟨b, 4, none⟩ = some (.slice a nk cap) := by rw [hb.cell (p := ⟨b, 4, none⟩) (World.block_lt_of_cell? w _ c4)]; exact c4
            have kk' : w1.cell? ⟨b, 0, none⟩ = some (.int .i64 ((7 : Nat) : Int)) := by rw [hb.cell (p := ⟨b, 0, none⟩) (World.block_lt_of_cell? w _ kk)]; exact kk
            have HB : Hid _ := hb
            clear W1 hb c4 kk
            go_wp2_with fail
            go_ret
            exact ⟨⟨_, rfl, leaf_new w1 (fun x => by have := hF _ x; have := HB.out.size; omega) 1 ev⟩, HB.out.alloc HB.out.size _⟩
        · rw [if_neg h6]
          have i6 : ((k : Int) == 6) = false := by simp; omega
          have i7 : ((k : Int) == 7) = false := by simp; omega
          clear h6
          by_cases h1 : ev = 1
          · rw [if_pos h1]
            have ie : (ev == 1) = true := by simp [h1]
            clear h1
            go_enter Tryz.func175, Tryz.ntmps175
            go_wp2_with fail
            refine W1.mono ?_
            rintro e w1 ⟨rfl, hb⟩
            have c4' : w1.cell? ⟨b, 4, none⟩ = some (.slice a nk cap) := by rw [hb.cell (p := ⟨b, 4, none⟩) (World.block_lt_of_cell? w _ c4)]; exact c4
            have kk' : w1.cell? ⟨b, 0, none⟩ = some (.int .i64 k) := by rw [hb.cell (p := ⟨b, 0, none⟩) (World.block_lt_of_cell? w _ kk)]; exact kk
            have HB : Hid _ := hb
            clear W1 hb c4 kk
            go_wp2_with fail
            go_ret
            exact ⟨⟨_, rfl, leaf_new w1 (fun x => by have := hF _ x; have := HB.out.size; omega) 20 0⟩, HB.out.alloc HB.out.size _⟩
          · rw [if_neg h1]
            have ie : (ev == 1) = false := by simpa using h1
            clear h1
            go_enter Tryz.func175, Tryz.ntmps175
            go_wp2_with fail
            refine W1.mono ?_
            rintro e w1 ⟨rfl, hb⟩
            have c4' : w1.cell? ⟨b, 4, none⟩ = some (.slice a nk cap) := by rw [hb.cell (p := ⟨b, 4, none⟩) (World.block_lt_of_cell? w _ c4)]; exact c4
            have kk' : w1.cell? ⟨b, 0, none⟩ = some (.int .i64 k) := by rw [hb.cell (p := ⟨b, 0, none⟩) (World.block_lt_of_cell? w _ kk)]; exact kk
            have HB : Hid _ := hb
            clear W1 hb c4 kk
            go_wp2_with fail
            go_ret
            exact ⟨⟨_, rfl, leaf_new w1 (fun x => by have := hF _ x; have := HB.out.size; omega) 21 0⟩, HB.out.alloc HB.out.size _⟩
end Go.Proofs.YtfkdailfcmnjlaaGreatDoor

namespace Go.Proofs.YtfkdailfcmnjlaaGreatDoor
open Go Go.RowKit
set_option maxRecDepth 100000
attribute [local go_sem ↓] Go.wp_at_zero Go.wp_at_succ

theorem rowSl {w : World} {base : Nat} {e : TypeId} {size n : Nat} {v : Value} {xs : List Value} (h : w.ownsRow base e size v n xs) : ∃ a cap, v = .slice a n cap := by
  obtain ⟨_, h⟩ := h
  rcases h with ⟨rfl, h0⟩ | ⟨g, cap, cur, rfl, _⟩
  · exact ⟨none, 0, by rw [h0]⟩
  · exact ⟨_, _, rfl⟩
theorem RwAt.more {F G : Nat → Prop} {w : World} {rp : Nat} {n : Int} {lv : Value} {bl : Nat → Nat} {D : Nat} {lets : List Tr} (h : RwAt F w rp n lv bl D lets) (hG : ∀ g, g < w.heap.size → G g → F g) : RwAt G w rp n lv bl D lets :=
  ⟨h.c0, h.c1, h.un, fun j hj => (h.tr j hj).more hG⟩
theorem RwAt.lt {F : Nat → Prop} {w : World} {rp : Nat} {n : Int} {lv : Value} {bl : Nat → Nat} {D : Nat} {lets : List Tr} (h : RwAt F w rp n lv bl D lets) : rp < w.heap.size := World.block_lt_of_cell? w _ h.c0
/-- Rewriting a condition, at most so deep. -/
def CdOK (n : Int) (lets : List Tr) (lt : List Nat) (D d : Nat) : Prop := ∀ {F : Nat → Prop} {t : Tr} {w : World} {rp b : Nat} {lv : Value} {bl : Nat → Nat}, (∀ g, F g → g < w.heap.size) → RwAt F w rp n lv bl D lets → WfT d t → tyTr lt d t ≠ 0 → TrF F d w b t →
  Calls Tryz.prog 128 #[.pointer (some ⟨rp, 0, none⟩), .pointer (some ⟨b, 0, none⟩)] w fun e w' => (∃ b', e = .returned (.pointer (some ⟨b', 0, none⟩)) ∧ TrF F d w' b' (rwT (passOf n) lets d t)) ∧ Below w.heap.size w w'
def ptrs (bs : List Nat) : List Value := bs.map fun b => .pointer (some ⟨b, 0, none⟩)
/-- What the loop over the parts keeps. -/
structure CdI (F : Nat → Prop) (n : Int) (lets : List Tr) (d : Nat) (ks : List Tr) (w wr : World) (v : Value) (bs : List Nat) (k : Nat) : Prop where
  len : bs.length = k
  row : wr.ownsRow w.heap.size 161 1 v k (ptrs bs)
  bel : Below w.heap.size w wr
  tr : ∀ j, j < k → TrF (fun g => F g ∨ v.ownBlock = some g) d wr (bs.getD j 0) (rwT (passOf n) lets d (ks.getD j noTr))
theorem info_cond : (Tryz.prog.info? 161).map (fun i => (i.zero, i.size, i.bytes)) = some (some (.pointer none), 1, 8) := by kernel_rfl
/-- One more. -/
theorem CdI.next {F : Nat → Prop} {n : Int} {lets : List Tr} {d : Nat} {ks : List Tr} {w wr w1 w5 : World} {v : Value} {bs : List Nat} {k b' gg cap : Nat} {o : Obj} (h : CdI F n lets d ks w wr v bs k) (hb1 : Below wr.heap.size wr w1) (ht : TrF (fun g => F g ∨ v.ownBlock = some g) d w1 b' (rwT (passOf n) lets d (ks.getD k noTr)))
    (hown : w5.ownsRow w.heap.size 161 1 (.slice (some ⟨gg, 0, none⟩) (k + 1) cap) (k + 1) (ptrs bs ++ [.pointer (some ⟨b', 0, none⟩)])) (hgrow : (w1.alloc o).grownBy w5 v.ownBlock) (hat : v.ownBlock = some gg ∨ gg = w1.heap.size + 1) : CdI F n lets d ks w w5 (.slice (some ⟨gg, 0, none⟩) (k + 1) cap) (bs ++ [b']) (k + 1) := by
  have hbw : Below w.heap.size w w1 := h.bel.trans (hb1.mono h.bel.size)
  have ho : Only (fun g => v.ownBlock = some g) w1 w5 := ((Only.refl (fun g => v.ownBlock = some g) w1).alloc _).grown hgrow (fun k hk => .inl hk)
  have step : ∀ {b : Nat} {t : Tr}, TrF (fun g => F g ∨ v.ownBlock = some g) d w1 b t → TrF (fun g => F g ∨ (Value.slice (some ⟨gg, 0, none⟩) (k + 1) cap).ownBlock = some g) d w5 b t := fun {b t} hx => by
    have h1 : TrF (fun g => (F g ∨ v.ownBlock = some g) ∨ g = gg) d w1 b t := hx.more (fun g hg hx => by
      rcases hx with hx | hx
      · exact hx
      · subst hx
        rcases hat with h2 | h2
        · exact .inr h2
        · omega)
    have h2 := h1.only (w' := w5) (ho.weak (fun i _ hi => .inl (.inr hi)))
    refine h2.more (fun g _ hx => ?_)
    rcases hx with hx | hx
    · exact .inl (.inl hx)
    · simp [Value.ownBlock] at hx
      exact .inr hx.symm
  refine ⟨by rw [List.length_append, h.len]; rfl, ?_, ?_, fun j hj => ?_⟩
  · unfold ptrs at hown ⊢
    rw [List.map_append]
    exact hown
  · exact hbw.trans (ho.below hbw.size (fun g _ hg => (h.row.lt g hg).1))
  · by_cases hjk : j < k
    · have e : (bs ++ [b']).getD j 0 = bs.getD j 0 := by
        rw [List.getD_eq_getElem?_getD, List.getElem?_append_left (by rw [h.len]; exact hjk), ← List.getD_eq_getElem?_getD]
      rw [e]
      exact step ((h.tr j hjk).below hb1)
    · obtain rfl : j = k := by omega
      have e : (bs ++ [b']).getD j 0 = b' := by
        rw [List.getD_eq_getElem?_getD, List.getElem?_append_right (by rw [h.len]; exact Nat.le_refl _), h.len]; simp
      rw [e]
      exact step ht
set_option maxHeartbeats 4000000 in
theorem conditions_ok {n : Int} {lets : List Tr} {lt : List Nat} {D d : Nat} (H : CdOK n lets lt D d) {F : Nat → Prop} {ks : List Tr} {w : World} {rp : Nat} {u lv : Value} {bl kb : Nat → Nat} (hF : ∀ g, F g → g < w.heap.size) (hR : RwAt F w rp n lv bl D lets) (hu : UnF F w u ks.length kb) (hk : ∀ j, j < ks.length → WfT d (ks.getD j noTr) ∧ tyTr lt d (ks.getD j noTr) ≠ 0 ∧ TrF F d w (kb j) (ks.getD j noTr)) (hl : ks.length ≤ 3) :
    Calls Tryz.prog 173 #[.pointer (some ⟨rp, 0, none⟩), u] w fun e w' => (∃ v bl', e = .returned v ∧ UnF F w' v ks.length bl' ∧ ∀ j, j < ks.length → TrF F d w' (bl' j) (rwT (passOf n) lets d (ks.getD j noTr))) ∧ Below w.heap.size w w' := by
  obtain ⟨a, cap, rfl, hq⟩ := hu
  have HQ : Hid _ := hq
  have HK : Hid _ := hk
  have HR : Hid _ := hR
  have HF : Hid _ := hF
  have H0 : Hid (CdI F n lets d ks w w (.slice none 0 0) [] 0) := ⟨rfl, World.ownsRow_nil _ _ _ _, Below.refl _ _, fun j hj => by omega⟩
  obtain ⟨i0, hi, hz⟩ := Option.map_eq_some_iff.1 info_cond
  simp only [Prod.mk.injEq] at hz
  obtain ⟨hz0, hz1, hz2⟩ := hz
  clear hq hk hR hF
  go_enter Tryz.func173, Tryz.ntmps173
  go_wp2_with fail
  go_loopw [5, 10] (fun vv iv wr => ∃ (k : Nat) (bs : List Nat), k ≤ ks.length ∧ iv = .int .i64 k ∧ Hid (CdI F n lets d ks w wr vv bs k)) (fun _ iv _ => ks.length - (intOf iv).toNat)
  case atStart => exact ⟨0, [], Nat.zero_le _, rfl, H0.out⟩
  case round =>
    obtain ⟨k, bs, hkk, rfl, HX⟩ := hrel
    by_cases hlt : k < ks.length
    · have hX := HX.out
      obtain ⟨g, rfl, hFg, q⟩ := HQ.out k hlt
      obtain ⟨h1, h2, h3⟩ := HK.out k hlt
      have hgl : g < w.heap.size := World.block_lt_of_cell? w _ q
      have q' : wr.cell? ⟨g, k, none⟩ = some (.pointer (some ⟨kb k, 0, none⟩)) := by rw [hX.bel.cell (p := ⟨g, k, none⟩) hgl]; exact q
      have hkb : (0 : Int) ≤ (k : Int) ∧ (k : Int) < (ks.length : Int) := by omega
      have hGF : ∀ (v : Value), wr.ownsRow w.heap.size 161 1 v k (ptrs bs) → ∀ g, g < w.heap.size → (F g ∨ v.ownBlock = some g) → F g := fun v hv g hg hx => by
        rcases hx with hx | hx
        · exact hx
        · have := (hv.lt g hx).1; omega
      have W1 := H (F := fun g => F g ∨ _) (b := kb k) (fun g hx => by
        rcases hx with hx | hx
        · have := HF.out g hx; have := hX.bel.size; omega
        · exact (hX.row.lt g hx).2) ((HR.out.more (hGF _ hX.row)).below hX.bel) h1 h2 ((h3.more (hGF _ hX.row)).below hX.bel)
      obtain ⟨va, vcap, ev⟩ := rowSl hX.row
      obtain rfl := ev
      have HROW : Hid _ := hX.row
      have HCX : Hid _ := hX
      clear hX h1 h2 h3 hGF HX q hFg
      go_wp2_with fail
      refine W1.mono ?_
      rintro e w1 ⟨⟨b', rfl, ht1⟩, hb1⟩
      have HT1 : Hid _ := ht1
      have HB1 : Hid _ := hb1
      have HR1 : Hid (w1.ownsRow w.heap.size 161 1 (.slice va k vcap) k (ptrs bs)) := ownsRow_below HROW.out hb1
      have hws : w.heap.size ≤ w1.heap.size := by have := HCX.out.bel.size; have := hb1.size; omega
      clear W1 ht1 hb1
      go_wp2_with (at_builtin; go_must (refine wpList_append_lies _ (by rfl) _ _ 227 (by rfl) w.heap.size 161 i0 (.pointer none) 1 8 Tryz.underlying227 hi hz0 hz1 hz2 (by rfl) (by decide) _ _ _ (by rfl) (HR1.out.alloc _) ⟨w1.heap.size, 0, none⟩ 1 1 [.pointer (some ⟨b', 0, none⟩)] (by rfl) (by rfl) (World.news_of_block (heap_alloc_new w1 _)) (fun x hx => by simp at hx; rcases hx with rfl; rfl) (by decide) (by unfold maxLen; omega) (by omega) (by simp; omega) _ rfl ?_); intro gg cap2 w5 hown3 hgrow hat hlt3; have HN : Hid (CdI F n lets d ks w w5 (.slice (some ⟨gg, 0, none⟩) (k + 1) cap2) (bs ++ [b']) (k + 1)) := HCX.out.next HB1.out HT1.out hown3 hgrow (by rcases hat with h | h; exact .inl h; right; rw [h, World.size_alloc]); clear hown3 hgrow hat hlt3)
      go_roundw
      case rel => exact ⟨k + 1, _, by omega, by go_num, HN.out⟩
      case measure => simp [intOf]; omega
    · obtain rfl : k = ks.length := by omega
      have hX := HX.out
      have HU : Hid (∃ bl', UnF F wr u5 ks.length bl' ∧ ∀ j, j < ks.length → TrF F d wr (bl' j) (rwT (passOf n) lets d (ks.getD j noTr))) := by
        refine ⟨fun j => bs.getD j 0, ?_, fun j hj => (hX.tr j hj).more (fun g _ hx => .inl hx)⟩
        obtain ⟨va, vcap, ev⟩ := rowSl hX.row
        subst ev
        refine ⟨va, vcap, rfl, fun j hj => ?_⟩
        obtain ⟨g, c2, ev, hlo, _⟩ := World.ownsRow.form hX.row (by omega)
        simp only [Value.slice.injEq, true_and] at ev
        obtain ⟨rfl, rfl⟩ := ev
        refine ⟨g, rfl, fun hx => by have := HF.out g hx; omega, ?_⟩
        rw [World.ownsRow.cellAt hX.row j (by omega)]
        unfold ptrs
        show (bs.map fun b => (Value.pointer (some ⟨b, 0, none⟩)))[j]? = some (Value.pointer (some ⟨bs.getD j 0, 0, none⟩))
        rw [List.getElem?_map, List.getD_eq_getElem?_getD, List.getElem?_eq_getElem (by rw [hX.len]; exact hj)]
        rfl
      have HB : Hid _ := hX.bel
      clear hX HX
      go_wp2_with fail
      go_ret
      obtain ⟨bl', u1, u2⟩ := HU.out
      exact ⟨⟨_, bl', rfl, u1, u2⟩, HB.out⟩
end Go.Proofs.YtfkdailfcmnjlaaGreatDoor
