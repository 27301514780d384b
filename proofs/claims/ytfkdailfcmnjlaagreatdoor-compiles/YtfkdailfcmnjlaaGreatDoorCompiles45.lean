/-
  The machine makes one of two: the other signs. The machine says no, jumps, ends. A step of the machine is the plain function's.
-/
import Derived.Test.YtfkdailfcmnjlaaGreatDoorCompiles01
import Derived.Test.YtfkdailfcmnjlaaGreatDoorCompiles02
import Derived.Test.YtfkdailfcmnjlaaGreatDoorCompiles04
import Derived.Test.YtfkdailfcmnjlaaGreatDoorCompiles05
import Derived.Test.YtfkdailfcmnjlaaGreatDoorCompiles06
import Derived.Test.YtfkdailfcmnjlaaGreatDoorCompiles07
import Derived.Test.YtfkdailfcmnjlaaGreatDoorCompiles08
import Derived.Test.YtfkdailfcmnjlaaGreatDoorCompiles09
import Derived.Test.YtfkdailfcmnjlaaGreatDoorCompiles10
import Derived.Test.YtfkdailfcmnjlaaGreatDoorCompiles11
import Derived.Test.YtfkdailfcmnjlaaGreatDoorCompiles12
import Derived.Test.YtfkdailfcmnjlaaGreatDoorCompiles13
import Derived.Test.YtfkdailfcmnjlaaGreatDoorCompiles14
import Derived.Test.YtfkdailfcmnjlaaGreatDoorCompiles15
import Derived.Test.YtfkdailfcmnjlaaGreatDoorCompiles16
import Derived.Test.YtfkdailfcmnjlaaGreatDoorCompiles17
import Derived.Test.YtfkdailfcmnjlaaGreatDoorCompiles18
import Derived.Test.YtfkdailfcmnjlaaGreatDoorCompiles19
import Derived.Test.YtfkdailfcmnjlaaGreatDoorCompiles20
import Derived.Test.YtfkdailfcmnjlaaGreatDoorCompiles21
import Derived.Test.YtfkdailfcmnjlaaGreatDoorCompiles22
import Derived.Test.YtfkdailfcmnjlaaGreatDoorCompiles23
import Derived.Test.YtfkdailfcmnjlaaGreatDoorCompiles24
import Derived.Test.YtfkdailfcmnjlaaGreatDoorCompiles28
import Derived.Test.YtfkdailfcmnjlaaGreatDoorCompiles29
import Derived.Test.YtfkdailfcmnjlaaGreatDoorCompiles30
import Derived.Test.YtfkdailfcmnjlaaGreatDoorCompiles31
import Derived.Test.YtfkdailfcmnjlaaGreatDoorCompiles32
import Derived.Test.YtfkdailfcmnjlaaGreatDoorCompiles34
import Derived.Test.YtfkdailfcmnjlaaGreatDoorCompiles35
import Derived.Test.YtfkdailfcmnjlaaGreatDoorCompiles37
import Derived.Test.YtfkdailfcmnjlaaGreatDoorCompiles38
import Derived.Test.YtfkdailfcmnjlaaGreatDoorCompiles39
import Derived.Test.YtfkdailfcmnjlaaGreatDoorCompiles40
import Derived.Test.YtfkdailfcmnjlaaGreatDoorCompiles41
import Derived.Test.YtfkdailfcmnjlaaGreatDoorCompiles44
import Derived.Test.YtfkdailfcmnjlaaGreatDoorLays
import Derived.Test.YtfkdailfcmnjlaaGreatDoorLays2
import Derived.WalkKit
import Derived.Deep.QuietTactic
import Derived.BigQuiet
import Derived.WalkSpells
import GoSem.Op.String
import Derived.Deep.AppendLies
import Derived.Deep.RegionHeld3
import Derived.Deep.DrawnRows
import Derived.Deep.RegionHeldLaw
import Derived.Deep.RegionLaw
import Derived.Lib.ParseIntBCases
import Derived.Deep.OwnRows
import Derived.Lib.LaidTab
import Derived.Lib.AppendIntMem
import Derived.Shelf.Strings.Builder1
import Derived.Laws.CopyOwn
import Derived.Deep.DeepCutAuto
import Derived.WalkSmall
import Derived.Lib.AppendZerosOnto
set_option linter.unusedVariables false
set_option linter.unusedSimpArgs false
namespace Go.Proofs.YtfkdailfcmnjlaaGreatDoor
open Go Go.RowKit
set_option maxRecDepth 100000
attribute [local go_sem ↓] Go.wp_at_zero Go.wp_at_succ

set_option maxHeartbeats 4000000 in
theorem twoSub_any {w : World} {p : Nat} {vs vc : Value} {fl : List Int} {s : MS} {l r x : Int} (h : MOut w w p vs vc fl s) (hl : s.st.length ≤ 4000) (hr : s.st.getLast?.getD 0 = r) (hl2 : s.st.dropLast.getLast?.getD 0 = l) (hf : ∀ w, Calls Tryz.prog 165 #[.int .i64 l, .int .i64 r] w fun e w' => e = .returned (.int .i64 x) ∧ w' = w) :
    Calls Tryz.prog 240 #[.pointer (some ⟨p, 0, none⟩), fnV 165] w fun e w' => e = .returned (.tuple #[]) ∧ MOut w w' p vs vc fl { s with st := s.st.dropLast.dropLast ++ [x] } := by
  unfold fnV
  have W1 := h.drew.pop (by omega)
  rw [hr] at W1
  have W2 : ∀ W, MOut w W p vs vc fl { s with st := s.st.dropLast } → Calls Tryz.prog 239 #[.pointer (some ⟨p, 0, none⟩)] W fun e w' => e = .returned (.int .i64 l) ∧ MOut w w' p vs vc fl { s with st := s.st.dropLast.dropLast } := fun W h => by
    have := h.pop (by simp; omega)
    simp only [hl2] at this; exact this
  have W3 : ∀ W, MOut w W p vs vc fl { s with st := s.st.dropLast.dropLast } → Calls Tryz.prog 238 #[.pointer (some ⟨p, 0, none⟩), .int .i64 x] W fun e w' => e = .returned (.tuple #[]) ∧ MOut w w' p vs vc fl { s with st := s.st.dropLast.dropLast ++ [x] } := fun W h => h.push x (by simp; omega)
  clear h hr hl2
  go_enter Tryz.func240, Tryz.ntmps240
  go_wp2_with fail
  go_region_held3 (fun w' => True) (exact trivial)
    (first
      | (go_at_call 239; refine (W2 _ (by assumption)).mono ?_; rintro e w3 ⟨rfl, hout3⟩)
      | (go_at_call 239; refine W1.mono ?_; rintro e w2 ⟨rfl, hout2⟩))
  have HU : Hid _ := hout3
  clear hout2 hout3
  go_wp2_with fail
  first
    | (refine (hf _).mono ?_; rintro e w4 ⟨rfl, rfl⟩; go_wp2_with fail; refine (W3 _ HU.out).mono ?_; rintro e w5 ⟨rfl, hout⟩; have HV : Hid _ := hout; clear hout)
    | (go_region_held3 (fun w' => True) (exact trivial)
        (first
          | (go_at_call 165; refine (hf _).mono ?_; rintro e w4 ⟨rfl, rfl⟩)
          | (go_at_call 238; refine (W3 _ (MOut.drew HU.out)).mono ?_; rintro e w5 ⟨rfl, hout⟩; have HV : Hid _ := hout; clear hout)))
  go_wp2
  go_end0
  exact ⟨rfl, HV.out⟩
set_option maxHeartbeats 4000000 in
theorem mSub_any {w : World} {p : Nat} {vs vc : Value} {fl : List Int} {s : MS} {l r x : Int} (op : Nat) (n tj pl : Int) (h : MacAt w p vs vc fl s) (hl : s.st.length ≤ 4000) (hr : s.st.getLast?.getD 0 = r) (hl2 : s.st.dropLast.getLast?.getD 0 = l) (hf : ∀ w, Calls Tryz.prog 165 #[.int .i64 l, .int .i64 r] w fun e w' => e = .returned (.int .i64 x) ∧ w' = w) :
    Calls Tryz.prog 197 #[.pointer (some ⟨p, 0, none⟩), insV op n tj pl] w fun e w' => e = .returned (.tuple #[]) ∧ MOut w w' p vs vc fl { s with st := s.st.dropLast.dropLast ++ [x] } := by
  obtain ⟨w1, hw1, H0⟩ : ∃ w1, w.alloc (.cells #[.int .i64 op, .int .i64 n, .int .i64 tj, .int .i64 pl] 247) = w1 ∧ MSt w w1 p vs vc fl s (insO op n tj pl) := ⟨_, rfl, MSt.of h _⟩
  unfold insV
  have H : Hid _ := H0
  have W1 := twoSub_any H0.out0 hl hr hl2 hf
  unfold fnV at W1
  have HW : Hid _ := hw1
  clear h H0 hw1 hf
  go_enter Tryz.func197, Tryz.ntmps197
  go_wp2_with fail
  rw [HW.out]
  refine W1.mono ?_
  rintro e w2 ⟨rfl, hout⟩
  have HU : Hid _ := hout
  clear hout W1
  go_wp2
  go_end0
  exact ⟨rfl, H.out.out _ _ HU.out⟩
set_option maxHeartbeats 4000000 in
theorem twoEqual_any {w : World} {p : Nat} {vs vc : Value} {fl : List Int} {s : MS} {l r x : Int} (h : MOut w w p vs vc fl s) (hl : s.st.length ≤ 4000) (hr : s.st.getLast?.getD 0 = r) (hl2 : s.st.dropLast.getLast?.getD 0 = l) (hf : ∀ w, Calls Tryz.prog 166 #[.int .i64 l, .int .i64 r] w fun e w' => e = .returned (.int .i64 x) ∧ w' = w) :
    Calls Tryz.prog 240 #[.pointer (some ⟨p, 0, none⟩), fnV 166] w fun e w' => e = .returned (.tuple #[]) ∧ MOut w w' p vs vc fl { s with st := s.st.dropLast.dropLast ++ [x] } := by
  unfold fnV
  have W1 := h.drew.pop (by omega)
  rw [hr] at W1
  have W2 : ∀ W, MOut w W p vs vc fl { s with st := s.st.dropLast } → Calls Tryz.prog 239 #[.pointer (some ⟨p, 0, none⟩)] W fun e w' => e = .returned (.int .i64 l) ∧ MOut w w' p vs vc fl { s with st := s.st.dropLast.dropLast } := fun W h => by
    have := h.pop (by simp; omega)
    simp only [hl2] at this; exact this
  have W3 : ∀ W, MOut w W p vs vc fl { s with st := s.st.dropLast.dropLast } → Calls Tryz.prog 238 #[.pointer (some ⟨p, 0, none⟩), .int .i64 x] W fun e w' => e = .returned (.tuple #[]) ∧ MOut w w' p vs vc fl { s with st := s.st.dropLast.dropLast ++ [x] } := fun W h => h.push x (by simp; omega)
  clear h hr hl2
  go_enter Tryz.func240, Tryz.ntmps240
  go_wp2_with fail
  go_region_held3 (fun w' => True) (exact trivial)
    (first
      | (go_at_call 239; refine (W2 _ (by assumption)).mono ?_; rintro e w3 ⟨rfl, hout3⟩)
      | (go_at_call 239; refine W1.mono ?_; rintro e w2 ⟨rfl, hout2⟩))
  have HU : Hid _ := hout3
  clear hout2 hout3
  go_wp2_with fail
  first
    | (refine (hf _).mono ?_; rintro e w4 ⟨rfl, rfl⟩; go_wp2_with fail; refine (W3 _ HU.out).mono ?_; rintro e w5 ⟨rfl, hout⟩; have HV : Hid _ := hout; clear hout)
    | (go_region_held3 (fun w' => True) (exact trivial)
        (first
          | (go_at_call 166; refine (hf _).mono ?_; rintro e w4 ⟨rfl, rfl⟩)
          | (go_at_call 238; refine (W3 _ (MOut.drew HU.out)).mono ?_; rintro e w5 ⟨rfl, hout⟩; have HV : Hid _ := hout; clear hout)))
  go_wp2
  go_end0
  exact ⟨rfl, HV.out⟩
set_option maxHeartbeats 4000000 in
theorem mEqual_any {w : World} {p : Nat} {vs vc : Value} {fl : List Int} {s : MS} {l r x : Int} (op : Nat) (n tj pl : Int) (h : MacAt w p vs vc fl s) (hl : s.st.length ≤ 4000) (hr : s.st.getLast?.getD 0 = r) (hl2 : s.st.dropLast.getLast?.getD 0 = l) (hf : ∀ w, Calls Tryz.prog 166 #[.int .i64 l, .int .i64 r] w fun e w' => e = .returned (.int .i64 x) ∧ w' = w) :
    Calls Tryz.prog 198 #[.pointer (some ⟨p, 0, none⟩), insV op n tj pl] w fun e w' => e = .returned (.tuple #[]) ∧ MOut w w' p vs vc fl { s with st := s.st.dropLast.dropLast ++ [x] } := by
  obtain ⟨w1, hw1, H0⟩ : ∃ w1, w.alloc (.cells #[.int .i64 op, .int .i64 n, .int .i64 tj, .int .i64 pl] 247) = w1 ∧ MSt w w1 p vs vc fl s (insO op n tj pl) := ⟨_, rfl, MSt.of h _⟩
  unfold insV
  have H : Hid _ := H0
  have W1 := twoEqual_any H0.out0 hl hr hl2 hf
  unfold fnV at W1
  have HW : Hid _ := hw1
  clear h H0 hw1 hf
  go_enter Tryz.func198, Tryz.ntmps198
  go_wp2_with fail
  rw [HW.out]
  refine W1.mono ?_
  rintro e w2 ⟨rfl, hout⟩
  have HU : Hid _ := hout
  clear hout W1
  go_wp2
  go_end0
  exact ⟨rfl, H.out.out _ _ HU.out⟩
set_option maxHeartbeats 4000000 in
theorem twoLess_any {w : World} {p : Nat} {vs vc : Value} {fl : List Int} {s : MS} {l r x : Int} (h : MOut w w p vs vc fl s) (hl : s.st.length ≤ 4000) (hr : s.st.getLast?.getD 0 = r) (hl2 : s.st.dropLast.getLast?.getD 0 = l) (hf : ∀ w, Calls Tryz.prog 167 #[.int .i64 l, .int .i64 r] w fun e w' => e = .returned (.int .i64 x) ∧ w' = w) :
    Calls Tryz.prog 240 #[.pointer (some ⟨p, 0, none⟩), fnV 167] w fun e w' => e = .returned (.tuple #[]) ∧ MOut w w' p vs vc fl { s with st := s.st.dropLast.dropLast ++ [x] } := by
  unfold fnV
  have W1 := h.drew.pop (by omega)
  rw [hr] at W1
  have W2 : ∀ W, MOut w W p vs vc fl { s with st := s.st.dropLast } → Calls Tryz.prog 239 #[.pointer (some ⟨p, 0, none⟩)] W fun e w' => e = .returned (.int .i64 l) ∧ MOut w w' p vs vc fl { s with st := s.st.dropLast.dropLast } := fun W h => by
    have := h.pop (by simp; omega)
    simp only [hl2] at this; exact this
  have W3 : ∀ W, MOut w W p vs vc fl { s with st := s.st.dropLast.dropLast } → Calls Tryz.prog 238 #[.pointer (some ⟨p, 0, none⟩), .int .i64 x] W fun e w' => e = .returned (.tuple #[]) ∧ MOut w w' p vs vc fl { s with st := s.st.dropLast.dropLast ++ [x] } := fun W h => h.push x (by simp; omega)
  clear h hr hl2
  go_enter Tryz.func240, Tryz.ntmps240
  go_wp2_with fail
  go_region_held3 (fun w' => True) (exact trivial)
    (first
      | (go_at_call 239; refine (W2 _ (by assumption)).mono ?_; rintro e w3 ⟨rfl, hout3⟩)
      | (go_at_call 239; refine W1.mono ?_; rintro e w2 ⟨rfl, hout2⟩))
  have HU : Hid _ := hout3
  clear hout2 hout3
  go_wp2_with fail
  first
    | (refine (hf _).mono ?_; rintro e w4 ⟨rfl, rfl⟩; go_wp2_with fail; refine (W3 _ HU.out).mono ?_; rintro e w5 ⟨rfl, hout⟩; have HV : Hid _ := hout; clear hout)
    | (go_region_held3 (fun w' => True) (exact trivial)
        (first
          | (go_at_call 167; refine (hf _).mono ?_; rintro e w4 ⟨rfl, rfl⟩)
          | (go_at_call 238; refine (W3 _ (MOut.drew HU.out)).mono ?_; rintro e w5 ⟨rfl, hout⟩; have HV : Hid _ := hout; clear hout)))
  go_wp2
  go_end0
  exact ⟨rfl, HV.out⟩
set_option maxHeartbeats 4000000 in
theorem mLess_any {w : World} {p : Nat} {vs vc : Value} {fl : List Int} {s : MS} {l r x : Int} (op : Nat) (n tj pl : Int) (h : MacAt w p vs vc fl s) (hl : s.st.length ≤ 4000) (hr : s.st.getLast?.getD 0 = r) (hl2 : s.st.dropLast.getLast?.getD 0 = l) (hf : ∀ w, Calls Tryz.prog 167 #[.int .i64 l, .int .i64 r] w fun e w' => e = .returned (.int .i64 x) ∧ w' = w) :
    Calls Tryz.prog 199 #[.pointer (some ⟨p, 0, none⟩), insV op n tj pl] w fun e w' => e = .returned (.tuple #[]) ∧ MOut w w' p vs vc fl { s with st := s.st.dropLast.dropLast ++ [x] } := by
  obtain ⟨w1, hw1, H0⟩ : ∃ w1, w.alloc (.cells #[.int .i64 op, .int .i64 n, .int .i64 tj, .int .i64 pl] 247) = w1 ∧ MSt w w1 p vs vc fl s (insO op n tj pl) := ⟨_, rfl, MSt.of h _⟩
  unfold insV
  have H : Hid _ := H0
  have W1 := twoLess_any H0.out0 hl hr hl2 hf
  unfold fnV at W1
  have HW : Hid _ := hw1
  clear h H0 hw1 hf
  go_enter Tryz.func199, Tryz.ntmps199
  go_wp2_with fail
  rw [HW.out]
  refine W1.mono ?_
  rintro e w2 ⟨rfl, hout⟩
  have HU : Hid _ := hout
  clear hout W1
  go_wp2
  go_end0
  exact ⟨rfl, H.out.out _ _ HU.out⟩
set_option maxHeartbeats 4000000 in
theorem twoAtMost_any {w : World} {p : Nat} {vs vc : Value} {fl : List Int} {s : MS} {l r x : Int} (h : MOut w w p vs vc fl s) (hl : s.st.length ≤ 4000) (hr : s.st.getLast?.getD 0 = r) (hl2 : s.st.dropLast.getLast?.getD 0 = l) (hf : ∀ w, Calls Tryz.prog 168 #[.int .i64 l, .int .i64 r] w fun e w' => e = .returned (.int .i64 x) ∧ w' = w) :
    Calls Tryz.prog 240 #[.pointer (some ⟨p, 0, none⟩), fnV 168] w fun e w' => e = .returned (.tuple #[]) ∧ MOut w w' p vs vc fl { s with st := s.st.dropLast.dropLast ++ [x] } := by
  unfold fnV
  have W1 := h.drew.pop (by omega)
  rw [hr] at W1
  have W2 : ∀ W, MOut w W p vs vc fl { s with st := s.st.dropLast } → Calls Tryz.prog 239 #[.pointer (some ⟨p, 0, none⟩)] W fun e w' => e = .returned (.int .i64 l) ∧ MOut w w' p vs vc fl { s with st := s.st.dropLast.dropLast } := fun W h => by
    have := h.pop (by simp; omega)
    simp only [hl2] at this; exact this
  have W3 : ∀ W, MOut w W p vs vc fl { s with st := s.st.dropLast.dropLast } → Calls Tryz.prog 238 #[.pointer (some ⟨p, 0, none⟩), .int .i64 x] W fun e w' => e = .returned (.tuple #[]) ∧ MOut w w' p vs vc fl { s with st := s.st.dropLast.dropLast ++ [x] } := fun W h => h.push x (by simp; omega)
  clear h hr hl2
  go_enter Tryz.func240, Tryz.ntmps240
  go_wp2_with fail
  go_region_held3 (fun w' => True) (exact trivial)
    (first
      | (go_at_call 239; refine (W2 _ (by assumption)).mono ?_; rintro e w3 ⟨rfl, hout3⟩)
      | (go_at_call 239; refine W1.mono ?_; rintro e w2 ⟨rfl, hout2⟩))
  have HU : Hid _ := hout3
  clear hout2 hout3
  go_wp2_with fail
  first
    | (refine (hf _).mono ?_; rintro e w4 ⟨rfl, rfl⟩; go_wp2_with fail; refine (W3 _ HU.out).mono ?_; rintro e w5 ⟨rfl, hout⟩; have HV : Hid _ := hout; clear hout)
    | (go_region_held3 (fun w' => True) (exact trivial)
        (first
          | (go_at_call 168; refine (hf _).mono ?_; rintro e w4 ⟨rfl, rfl⟩)
          | (go_at_call 238; refine (W3 _ (MOut.drew HU.out)).mono ?_; rintro e w5 ⟨rfl, hout⟩; have HV : Hid _ := hout; clear hout)))
  go_wp2
  go_end0
  exact ⟨rfl, HV.out⟩
set_option maxHeartbeats 4000000 in
theorem mAtMost_any {w : World} {p : Nat} {vs vc : Value} {fl : List Int} {s : MS} {l r x : Int} (op : Nat) (n tj pl : Int) (h : MacAt w p vs vc fl s) (hl : s.st.length ≤ 4000) (hr : s.st.getLast?.getD 0 = r) (hl2 : s.st.dropLast.getLast?.getD 0 = l) (hf : ∀ w, Calls Tryz.prog 168 #[.int .i64 l, .int .i64 r] w fun e w' => e = .returned (.int .i64 x) ∧ w' = w) :
    Calls Tryz.prog 200 #[.pointer (some ⟨p, 0, none⟩), insV op n tj pl] w fun e w' => e = .returned (.tuple #[]) ∧ MOut w w' p vs vc fl { s with st := s.st.dropLast.dropLast ++ [x] } := by
  obtain ⟨w1, hw1, H0⟩ : ∃ w1, w.alloc (.cells #[.int .i64 op, .int .i64 n, .int .i64 tj, .int .i64 pl] 247) = w1 ∧ MSt w w1 p vs vc fl s (insO op n tj pl) := ⟨_, rfl, MSt.of h _⟩
  unfold insV
  have H : Hid _ := H0
  have W1 := twoAtMost_any H0.out0 hl hr hl2 hf
  unfold fnV at W1
  have HW : Hid _ := hw1
  clear h H0 hw1 hf
  go_enter Tryz.func200, Tryz.ntmps200
  go_wp2_with fail
  rw [HW.out]
  refine W1.mono ?_
  rintro e w2 ⟨rfl, hout⟩
  have HU : Hid _ := hout
  clear hout W1
  go_wp2
  go_end0
  exact ⟨rfl, H.out.out _ _ HU.out⟩
set_option maxHeartbeats 4000000 in
theorem twoAnd_any {w : World} {p : Nat} {vs vc : Value} {fl : List Int} {s : MS} {l r x : Int} (h : MOut w w p vs vc fl s) (hl : s.st.length ≤ 4000) (hr : s.st.getLast?.getD 0 = r) (hl2 : s.st.dropLast.getLast?.getD 0 = l) (hf : ∀ w, Calls Tryz.prog 169 #[.int .i64 l, .int .i64 r] w fun e w' => e = .returned (.int .i64 x) ∧ w' = w) :
    Calls Tryz.prog 240 #[.pointer (some ⟨p, 0, none⟩), fnV 169] w fun e w' => e = .returned (.tuple #[]) ∧ MOut w w' p vs vc fl { s with st := s.st.dropLast.dropLast ++ [x] } := by
  unfold fnV
  have W1 := h.drew.pop (by omega)
  rw [hr] at W1
  have W2 : ∀ W, MOut w W p vs vc fl { s with st := s.st.dropLast } → Calls Tryz.prog 239 #[.pointer (some ⟨p, 0, none⟩)] W fun e w' => e = .returned (.int .i64 l) ∧ MOut w w' p vs vc fl { s with st := s.st.dropLast.dropLast } := fun W h => by
    have := h.pop (by simp; omega)
    simp only [hl2] at this; exact this
  have W3 : ∀ W, MOut w W p vs vc fl { s with st := s.st.dropLast.dropLast } → Calls Tryz.prog 238 #[.pointer (some ⟨p, 0, none⟩), .int .i64 x] W fun e w' => e = .returned (.tuple #[]) ∧ MOut w w' p vs vc fl { s with st := s.st.dropLast.dropLast ++ [x] } := fun W h => h.push x (by simp; omega)
  clear h hr hl2
  go_enter Tryz.func240, Tryz.ntmps240
  go_wp2_with fail
  go_region_held3 (fun w' => True) (exact trivial)
    (first
      | (go_at_call 239; refine (W2 _ (by assumption)).mono ?_; rintro e w3 ⟨rfl, hout3⟩)
      | (go_at_call 239; refine W1.mono ?_; rintro e w2 ⟨rfl, hout2⟩))
  have HU : Hid _ := hout3
  clear hout2 hout3
  go_wp2_with fail
  first
    | (refine (hf _).mono ?_; rintro e w4 ⟨rfl, rfl⟩; go_wp2_with fail; refine (W3 _ HU.out).mono ?_; rintro e w5 ⟨rfl, hout⟩; have HV : Hid _ := hout; clear hout)
    | (go_region_held3 (fun w' => True) (exact trivial)
        (first
          | (go_at_call 169; refine (hf _).mono ?_; rintro e w4 ⟨rfl, rfl⟩)
          | (go_at_call 238; refine (W3 _ (MOut.drew HU.out)).mono ?_; rintro e w5 ⟨rfl, hout⟩; have HV : Hid _ := hout; clear hout)))
  go_wp2
  go_end0
  exact ⟨rfl, HV.out⟩
set_option maxHeartbeats 4000000 in
theorem mAnd_any {w : World} {p : Nat} {vs vc : Value} {fl : List Int} {s : MS} {l r x : Int} (op : Nat) (n tj pl : Int) (h : MacAt w p vs vc fl s) (hl : s.st.length ≤ 4000) (hr : s.st.getLast?.getD 0 = r) (hl2 : s.st.dropLast.getLast?.getD 0 = l) (hf : ∀ w, Calls Tryz.prog 169 #[.int .i64 l, .int .i64 r] w fun e w' => e = .returned (.int .i64 x) ∧ w' = w) :
    Calls Tryz.prog 202 #[.pointer (some ⟨p, 0, none⟩), insV op n tj pl] w fun e w' => e = .returned (.tuple #[]) ∧ MOut w w' p vs vc fl { s with st := s.st.dropLast.dropLast ++ [x] } := by
  obtain ⟨w1, hw1, H0⟩ : ∃ w1, w.alloc (.cells #[.int .i64 op, .int .i64 n, .int .i64 tj, .int .i64 pl] 247) = w1 ∧ MSt w w1 p vs vc fl s (insO op n tj pl) := ⟨_, rfl, MSt.of h _⟩
  unfold insV
  have H : Hid _ := H0
  have W1 := twoAnd_any H0.out0 hl hr hl2 hf
  unfold fnV at W1
  have HW : Hid _ := hw1
  clear h H0 hw1 hf
  go_enter Tryz.func202, Tryz.ntmps202
  go_wp2_with fail
  rw [HW.out]
  refine W1.mono ?_
  rintro e w2 ⟨rfl, hout⟩
  have HU : Hid _ := hout
  clear hout W1
  go_wp2
  go_end0
  exact ⟨rfl, H.out.out _ _ HU.out⟩
set_option maxHeartbeats 4000000 in
theorem twoOr_any {w : World} {p : Nat} {vs vc : Value} {fl : List Int} {s : MS} {l r x : Int} (h : MOut w w p vs vc fl s) (hl : s.st.length ≤ 4000) (hr : s.st.getLast?.getD 0 = r) (hl2 : s.st.dropLast.getLast?.getD 0 = l) (hf : ∀ w, Calls Tryz.prog 170 #[.int .i64 l, .int .i64 r] w fun e w' => e = .returned (.int .i64 x) ∧ w' = w) :
    Calls Tryz.prog 240 #[.pointer (some ⟨p, 0, none⟩), fnV 170] w fun e w' => e = .returned (.tuple #[]) ∧ MOut w w' p vs vc fl { s with st := s.st.dropLast.dropLast ++ [x] } := by
  unfold fnV
  have W1 := h.drew.pop (by omega)
  rw [hr] at W1
  have W2 : ∀ W, MOut w W p vs vc fl { s with st := s.st.dropLast } → Calls Tryz.prog 239 #[.pointer (some ⟨p, 0, none⟩)] W fun e w' => e = .returned (.int .i64 l) ∧ MOut w w' p vs vc fl { s with st := s.st.dropLast.dropLast } := fun W h => by
    have := h.pop (by simp; omega)
    simp only [hl2] at this; exact this
  have W3 : ∀ W, MOut w W p vs vc fl { s with st := s.st.dropLast.dropLast } → Calls Tryz.prog 238 #[.pointer (some ⟨p, 0, none⟩), .int .i64 x] W fun e w' => e = .returned (.tuple #[]) ∧ MOut w w' p vs vc fl { s with st := s.st.dropLast.dropLast ++ [x] } := fun W h => h.push x (by simp; omega)
  clear h hr hl2
  go_enter Tryz.func240, Tryz.ntmps240
  go_wp2_with fail
  go_region_held3 (fun w' => True) (exact trivial)
    (first
      | (go_at_call 239; refine (W2 _ (by assumption)).mono ?_; rintro e w3 ⟨rfl, hout3⟩)
      | (go_at_call 239; refine W1.mono ?_; rintro e w2 ⟨rfl, hout2⟩))
  have HU : Hid _ := hout3
  clear hout2 hout3
  go_wp2_with fail
  first
    | (refine (hf _).mono ?_; rintro e w4 ⟨rfl, rfl⟩; go_wp2_with fail; refine (W3 _ HU.out).mono ?_; rintro e w5 ⟨rfl, hout⟩; have HV : Hid _ := hout; clear hout)
    | (go_region_held3 (fun w' => True) (exact trivial)
        (first
          | (go_at_call 170; refine (hf _).mono ?_; rintro e w4 ⟨rfl, rfl⟩)
          | (go_at_call 238; refine (W3 _ (MOut.drew HU.out)).mono ?_; rintro e w5 ⟨rfl, hout⟩; have HV : Hid _ := hout; clear hout)))
  go_wp2
  go_end0
  exact ⟨rfl, HV.out⟩
set_option maxHeartbeats 4000000 in
theorem mOr_any {w : World} {p : Nat} {vs vc : Value} {fl : List Int} {s : MS} {l r x : Int} (op : Nat) (n tj pl : Int) (h : MacAt w p vs vc fl s) (hl : s.st.length ≤ 4000) (hr : s.st.getLast?.getD 0 = r) (hl2 : s.st.dropLast.getLast?.getD 0 = l) (hf : ∀ w, Calls Tryz.prog 170 #[.int .i64 l, .int .i64 r] w fun e w' => e = .returned (.int .i64 x) ∧ w' = w) :
    Calls Tryz.prog 203 #[.pointer (some ⟨p, 0, none⟩), insV op n tj pl] w fun e w' => e = .returned (.tuple #[]) ∧ MOut w w' p vs vc fl { s with st := s.st.dropLast.dropLast ++ [x] } := by
  obtain ⟨w1, hw1, H0⟩ : ∃ w1, w.alloc (.cells #[.int .i64 op, .int .i64 n, .int .i64 tj, .int .i64 pl] 247) = w1 ∧ MSt w w1 p vs vc fl s (insO op n tj pl) := ⟨_, rfl, MSt.of h _⟩
  unfold insV
  have H : Hid _ := H0
  have W1 := twoOr_any H0.out0 hl hr hl2 hf
  unfold fnV at W1
  have HW : Hid _ := hw1
  clear h H0 hw1 hf
  go_enter Tryz.func203, Tryz.ntmps203
  go_wp2_with fail
  rw [HW.out]
  refine W1.mono ?_
  rintro e w2 ⟨rfl, hout⟩
  have HU : Hid _ := hout
  clear hout W1
  go_wp2
  go_end0
  exact ⟨rfl, H.out.out _ _ HU.out⟩
end Go.Proofs.YtfkdailfcmnjlaaGreatDoor

namespace Go.Proofs.YtfkdailfcmnjlaaGreatDoor
open Go Go.RowKit
set_option maxRecDepth 100000
attribute [local go_sem ↓] Go.wp_at_zero Go.wp_at_succ

set_option maxHeartbeats 4000000 in
theorem mnot_any {w : World} {p : Nat} {vs vc : Value} {fl : List Int} {s : MS} {r x : Int} (op : Nat) (n tj pl : Int) (h : MacAt w p vs vc fl s) (hl : s.st.length ≤ 4000) (hr : s.st.getLast?.getD 0 = r) (hf : ∀ w, Calls Tryz.prog 125 #[.int .i64 r] w fun e w' => e = .returned (.int .i64 x) ∧ w' = w) :
    Calls Tryz.prog 201 #[.pointer (some ⟨p, 0, none⟩), insV op n tj pl] w fun e w' => e = .returned (.tuple #[]) ∧ MOut w w' p vs vc fl { s with st := s.st.dropLast ++ [x] } := by
  obtain ⟨w1, hw1, H0⟩ : ∃ w1, w.alloc (.cells #[.int .i64 op, .int .i64 n, .int .i64 tj, .int .i64 pl] 247) = w1 ∧ MSt w w1 p vs vc fl s (insO op n tj pl) := ⟨_, rfl, MSt.of h _⟩
  unfold insV
  have H : Hid _ := H0
  have W1 := H0.out0.drew.pop (by omega)
  rw [hr] at W1
  have W2 : ∀ W, MOut w1 W p vs vc fl { s with st := s.st.dropLast } → Calls Tryz.prog 238 #[.pointer (some ⟨p, 0, none⟩), .int .i64 x] W fun e w' => e = .returned (.tuple #[]) ∧ MOut w1 w' p vs vc fl { s with st := s.st.dropLast ++ [x] } := fun W h => h.push x (by simp; omega)
  have HW : Hid _ := hw1
  clear h H0 hw1 hr
  go_enter Tryz.func201, Tryz.ntmps201
  go_wp2_with fail
  rw [HW.out]
  go_region_held3 (fun w' => True) (exact trivial)
    (first
      | (go_at_call 125; refine (hf _).mono ?_; rintro e w4 ⟨rfl, rfl⟩)
      | (go_at_call 238; refine (W2 _ (by assumption)).mono ?_; rintro e w5 ⟨rfl, hout⟩)
      | (go_at_call 239; refine W1.mono ?_; rintro e w2 ⟨rfl, hout2⟩))
  have HV : Hid _ := hout
  clear hout hout2
  go_end0
  exact ⟨rfl, H.out.out _ _ HV.out⟩
set_option maxHeartbeats 4000000 in
theorem mjump_any {w : World} {p : Nat} {vs vc : Value} {fl : List Int} {s : MS} (op : Nat) (n tj pl : Int) (h : MOut w w p vs vc fl s) :
    Calls Tryz.prog 205 #[.pointer (some ⟨p, 0, none⟩), insV op n tj pl] w fun e w' => e = .returned (.tuple #[]) ∧ MOut w w' p vs vc fl { s with next := tj } := by
  have hm : ∃ vs', MacAt w p vs' vc fl s ∧ (∀ b, Foot p vs' vc b → Foot p vs vc b ∨ w.heap.size ≤ b) := by obtain ⟨vs', h1, _, h3⟩ := h; exact ⟨vs', h1, h3⟩
  obtain ⟨vs', h1, h3⟩ := hm
  obtain ⟨w1, hw1, H0⟩ : ∃ w1, w.alloc (.cells #[.int .i64 op, .int .i64 n, .int .i64 tj, .int .i64 pl] 247) = w1 ∧ MSt w w1 p vs' vc fl s (insO op n tj pl) := ⟨_, rfl, MSt.of h1 _⟩
  unfold insV
  obtain ⟨c0, c1, c2, c3⟩ := H0.after H0.out0
  obtain ⟨d11, d12, d13, d14, d15, df⟩ := H0.out0.cells
  have df11 := df 11
  have HA : Hid (MOut w (w1.setCell ⟨p, 11, none⟩ (.int .i64 tj)) p vs vc fl { s with next := tj }) :=
    MOut.then (Only.refl _ w) h3 (H0.out _ _ (H0.out0.put 11 (.int .i64 tj) (fun _ _ => rfl) rfl rfl))
  have HW : Hid _ := hw1
  clear h h1 h3 H0 hw1 df
  rw [← HW.out] at c2 d11 df11
  go_enter Tryz.func205, Tryz.ntmps205
  go_wp2_with fail
  rw [HW.out]
  go_end0
  exact ⟨rfl, HA.out⟩
set_option maxHeartbeats 4000000 in
theorem mjumpU_any {w : World} {p : Nat} {vs vc : Value} {fl : List Int} {s : MS} (op : Nat) (n tj pl : Int) (h : MacAt w p vs vc fl s) (hl : s.st.length ≤ 4000) :
    Calls Tryz.prog 204 #[.pointer (some ⟨p, 0, none⟩), insV op n tj pl] w fun e w' => e = .returned (.tuple #[]) ∧ MOut w w' p vs vc fl { s with st := s.st.dropLast, next := if s.st.getLast?.getD 0 = 0 then tj else s.next } := by
  obtain ⟨w1, hw1, H0⟩ : ∃ w1, w.alloc (.cells #[.int .i64 op, .int .i64 n, .int .i64 tj, .int .i64 pl] 247) = w1 ∧ MSt w w1 p vs vc fl s (insO op n tj pl) := ⟨_, rfl, MSt.of h _⟩
  unfold insV
  have H : Hid _ := H0
  have W1 := H0.out0.pop (by omega)
  generalize s.st.getLast?.getD 0 = r at *
  obtain ⟨nx, hnx⟩ : ∃ nx, (if r = 0 then tj else s.next) = nx := ⟨_, rfl⟩
  rw [hnx]
  have HNX : Hid _ := hnx
  clear hnx
  have W2 : ∀ W, MOut w1 W p vs vc fl { s with st := s.st.dropLast } → Calls Tryz.prog 205 #[.pointer (some ⟨p, 0, none⟩), .agg #[.int .i64 op, .int .i64 n, .int .i64 tj, .int .i64 pl]] W fun e w' => e = .returned (.tuple #[]) ∧ MOut w1 w' p vs vc fl { s with st := s.st.dropLast, next := tj } := fun W h => by
    obtain ⟨vs', h1, h2, h3⟩ := h
    have := mjump_any op n tj pl (MOut.refl h1)
    unfold insV at this
    refine this.mono ?_
    rintro e w' ⟨rfl, ho⟩
    exact ⟨rfl, MOut.then h2 h3 ho⟩
  have HK : Hid (∀ W' s', MOut w1 W' p vs vc fl s' → W'.cell? ⟨w.heap.size, 0, none⟩ = some (.int .i64 op) ∧ W'.cell? ⟨w.heap.size, 1, none⟩ = some (.int .i64 n) ∧ W'.cell? ⟨w.heap.size, 2, none⟩ = some (.int .i64 tj) ∧ W'.cell? ⟨w.heap.size, 3, none⟩ = some (.int .i64 pl)) := fun W' _ h => H0.after h
  have HW : Hid _ := hw1
  clear h H0 hw1
  by_cases hr : r = 0
  · subst hr
    obtain rfl : nx = tj := by rw [← HNX.out, if_pos rfl]
    go_enter Tryz.func204, Tryz.ntmps204
    go_wp2_with fail
    rw [HW.out]
    refine W1.mono ?_
    rintro e w2 ⟨rfl, hout⟩
    obtain ⟨c0, c1, c2, c3⟩ := HK.out _ _ hout
    have HU : Hid _ := hout
    clear hout
    go_wp2_with fail
    refine (W2 _ HU.out).mono ?_
    rintro e w3 ⟨rfl, hout⟩
    have HV : Hid _ := hout
    clear hout
    go_wp2
    go_end0
    exact ⟨rfl, H.out.out _ _ HV.out⟩
  · have hr' : (r == 0) = false := by simpa using hr
    obtain rfl : nx = s.next := by rw [← HNX.out, if_neg hr]
    clear hr HNX
    go_enter Tryz.func204, Tryz.ntmps204
    go_wp2_with fail
    rw [HW.out]
    refine W1.mono ?_
    rintro e w2 ⟨rfl, hout⟩
    have HU : Hid _ := hout
    clear hout
    go_wp2
    go_end0
    exact ⟨rfl, H.out.out _ _ HU.out⟩
set_option maxHeartbeats 4000000 in
theorem mend_any {w : World} {p : Nat} {vs vc : Value} {fl : List Int} {s : MS} (b : Bool) (op : Nat) (n tj pl : Int) (h : MOut w w p vs vc fl s) :
    Calls Tryz.prog 241 #[.pointer (some ⟨p, 0, none⟩), .bool b, insV op n tj pl] w fun e w' => e = .returned (.tuple #[]) ∧ MOut w w' p vs vc fl { s with al := b, ru := n, ended := true } := by
  have hm : ∃ vs', MacAt w p vs' vc fl s ∧ (∀ b, Foot p vs' vc b → Foot p vs vc b ∨ w.heap.size ≤ b) := by obtain ⟨vs', h1, _, h3⟩ := h; exact ⟨vs', h1, h3⟩
  obtain ⟨vs', h1, h3⟩ := hm
  obtain ⟨w1, hw1, H0⟩ : ∃ w1, w.alloc (.cells #[.int .i64 op, .int .i64 n, .int .i64 tj, .int .i64 pl] 247) = w1 ∧ MSt w w1 p vs' vc fl s (insO op n tj pl) := ⟨_, rfl, MSt.of h1 _⟩
  unfold insV
  obtain ⟨c0, c1, c2, c3⟩ := H0.after H0.out0
  obtain ⟨d11, d12, d13, d14, d15, df⟩ := H0.out0.cells
  have df12 := df 12
  have df13 := df 13
  have df14 := df 14
  have hg : w.heap.size ≠ p := fun e => by have := H0.far p (.inl rfl); omega
  have HA : Hid (MOut w (((w1.setCell ⟨p, 13, none⟩ (.bool b)).setCell ⟨p, 14, none⟩ (.int .i64 n)).drew.setCell ⟨p, 12, none⟩ (.bool true)) p vs vc fl { s with al := b, ru := n, ended := true }) :=
    MOut.then (Only.refl _ w) h3 (H0.out _ _ (((H0.out0.put (s' := { s with al := b }) 13 (.bool b) (fun _ _ => rfl) rfl rfl).put (s' := { s with al := b, ru := n }) 14 (.int .i64 n) (fun _ _ => rfl) rfl rfl).drew.put (s' := { s with al := b, ru := n, ended := true }) 12 (.bool true) (fun _ _ => rfl) rfl rfl))
  have HW : Hid _ := hw1
  have e14 : ∀ v, (w1.setCell ⟨p, 13, none⟩ v).cell? ⟨p, 14, none⟩ = some (.int .i64 s.ru) := fun v => by rw [cell_set_off _ _ _ _ _ (by decide)]; exact d14
  have e12 : ∀ v u, ((w1.setCell ⟨p, 13, none⟩ v).setCell ⟨p, 14, none⟩ u).cell? ⟨p, 12, none⟩ = some (.bool s.ended) := fun v u => by rw [cell_set_off _ _ _ _ _ (by decide), cell_set_off _ _ _ _ _ (by decide)]; exact d12
  have KS : Hid (∀ (W : World) (o : Nat) (v : Value), W.cell? ⟨w.heap.size, 1, none⟩ = some (.int .i64 n) → (W.setCell ⟨p, o, none⟩ v).cell? ⟨w.heap.size, 1, none⟩ = some (.int .i64 n)) := fun W o v hS => by rw [World.cell?_setCell_far _ _ _ _ (by simpa using fun e => hg e.symm)]; exact hS
  clear h h1 h3 H0 hw1 df
  go_enter Tryz.func241, Tryz.ntmps241
  go_wp2_with fail
  rw [HW.out]
  go_region_held3 (fun W => W.cell? ⟨w.heap.size, 1, none⟩ = some (.int .i64 n)) (first | with_reducible assumption | exact KS.out w1 13 _ c1 | exact KS.out _ 14 _ (KS.out w1 13 _ c1) | go_keep) (fail)
  rename_i hHeld
  clear hHeld KS
  have e12' := e12 (.bool b) (.int .i64 n)
  have f12' : ((w1.setCell ⟨p, 13, none⟩ (.bool b)).setCell ⟨p, 14, none⟩ (.int .i64 n)).frozen? ⟨p, 12, none⟩ = false := by simpa using df12
  clear e12 e14
  generalize hww : (w1.setCell ⟨p, 13, none⟩ (.bool b)).setCell ⟨p, 14, none⟩ (.int .i64 n) = ww at *
  go_wp2
  go_end0
  exact ⟨rfl, HA.out⟩
set_option maxHeartbeats 4000000 in
theorem mallow_any {w : World} {p : Nat} {vs vc : Value} {fl : List Int} {s : MS} (op : Nat) (n tj pl : Int) (h : MacAt w p vs vc fl s) :
    Calls Tryz.prog 206 #[.pointer (some ⟨p, 0, none⟩), insV op n tj pl] w fun e w' => e = .returned (.tuple #[]) ∧ MOut w w' p vs vc fl { s with al := true, ru := n, ended := true } := by
  obtain ⟨w1, hw1, H0⟩ : ∃ w1, w.alloc (.cells #[.int .i64 op, .int .i64 n, .int .i64 tj, .int .i64 pl] 247) = w1 ∧ MSt w w1 p vs vc fl s (insO op n tj pl) := ⟨_, rfl, MSt.of h _⟩
  have W1 := mend_any true op n tj pl H0.out0
  have W2 := mend_any (w := w1.drew) true op n tj pl (MOut.refl (by obtain ⟨vs', hm, _, _⟩ := H0.out0; exact (h.only (by rw [← hw1]; exact (Only.refl (fun _ => False) w).alloc _) (fun _ _ h => h)).drew))
  unfold insV at *
  have H : Hid _ := H0
  obtain ⟨c0, c1, c2, c3⟩ := H0.after H0.out0
  have HW : Hid _ := hw1
  clear h H0 hw1
  rw [← HW.out] at c0 c1 c2 c3
  go_enter Tryz.func206, Tryz.ntmps206
  go_wp2_with fail
  rw [HW.out]
  refine W1.mono ?_
  rintro e w2 ⟨rfl, hout⟩
  have HU : Hid _ := hout
  clear hout W1 W2
  go_wp2
  go_end0
  exact ⟨rfl, H.out.out _ _ HU.out⟩
set_option maxHeartbeats 4000000 in
theorem mdeny_any {w : World} {p : Nat} {vs vc : Value} {fl : List Int} {s : MS} (op : Nat) (n tj pl : Int) (h : MacAt w p vs vc fl s) :
    Calls Tryz.prog 207 #[.pointer (some ⟨p, 0, none⟩), insV op n tj pl] w fun e w' => e = .returned (.tuple #[]) ∧ MOut w w' p vs vc fl { s with al := false, ru := n, ended := true } := by
  obtain ⟨w1, hw1, H0⟩ : ∃ w1, w.alloc (.cells #[.int .i64 op, .int .i64 n, .int .i64 tj, .int .i64 pl] 247) = w1 ∧ MSt w w1 p vs vc fl s (insO op n tj pl) := ⟨_, rfl, MSt.of h _⟩
  have W1 := mend_any false op n tj pl H0.out0
  have W2 := mend_any (w := w1.drew) false op n tj pl (MOut.refl (by obtain ⟨vs', hm, _, _⟩ := H0.out0; exact (h.only (by rw [← hw1]; exact (Only.refl (fun _ => False) w).alloc _) (fun _ _ h => h)).drew))
  unfold insV at *
  have H : Hid _ := H0
  obtain ⟨c0, c1, c2, c3⟩ := H0.after H0.out0
  have HW : Hid _ := hw1
  clear h H0 hw1
  rw [← HW.out] at c0 c1 c2 c3
  go_enter Tryz.func207, Tryz.ntmps207
  go_wp2_with fail
  rw [HW.out]
  refine W1.mono ?_
  rintro e w2 ⟨rfl, hout⟩
  have HU : Hid _ := hout
  clear hout W1 W2
  go_wp2
  go_end0
  exact ⟨rfl, H.out.out _ _ HU.out⟩
end Go.Proofs.YtfkdailfcmnjlaaGreatDoor

namespace Go.Proofs.YtfkdailfcmnjlaaGreatDoor
open Go Go.RowKit
set_option maxRecDepth 100000

def fnN (op : Nat) : Nat := [0, 192, 192, 192, 193, 194, 195, 196, 197, 198, 199, 200, 201, 202, 203, 204, 205, 206, 207].getD op 0
theorem doT_at {op : Nat} (h : 1 ≤ op ∧ op ≤ 18) : doT[op]? = some (.func (.func (fnN op)) #[] #[]) := by
  have e : op = 1 ∨ op = 2 ∨ op = 3 ∨ op = 4 ∨ op = 5 ∨ op = 6 ∨ op = 7 ∨ op = 8 ∨ op = 9 ∨ op = 10 ∨ op = 11 ∨ op = 12 ∨ op = 13 ∨ op = 14 ∨ op = 15 ∨ op = 16 ∨ op = 17 ∨ op = 18 := by omega
  rcases e with rfl | rfl | rfl | rfl | rfl | rfl | rfl | rfl | rfl | rfl | rfl | rfl | rfl | rfl | rfl | rfl | rfl | rfl <;> rfl
theorem rtop_cons (v : Int) (r : List Int) : (v :: r).reverse.getLast?.getD 0 = v := by simp
theorem rrest_cons (v : Int) (r : List Int) : (v :: r).reverse.dropLast = r.reverse := by simp
theorem rpush_cons (v : Int) (r : List Int) : r.reverse ++ [v] = (v :: r).reverse := by simp
theorem mstep_any {w : World} {p : Nat} {vs vc : Value} {fl : List Int} {s : MS} {x : Ins} {k k' : Kn} {cells : Nat} {st cl : List Int} (tj : Int) (h : MacAt w p vs vc fl s) (hx : NumOK cells x) (hft : Fits k cells st cl) (hd : doesK x.op x.n.toNat k = some k') (hs : s.st = st.reverse) (hc : s.cl = cl) (hcells : cells ≤ 256) (hl : st.length ≤ 100) {st' cl' : List Int} {j : Bool} (hst : stepK fl x st cl = some (st', cl', j)) (h17 : ¬ (x.op = 17 ∨ x.op = 18)) :
    Calls Tryz.prog (fnN x.op) #[.pointer (some ⟨p, 0, none⟩), insV x.op x.n tj (x.pl : Nat)] w fun e w' => e = .returned (.tuple #[]) ∧ MOut w w' p vs vc fl { s with st := st'.reverse, cl := cl', next := if j then tj else s.next } := by
  obtain ⟨op, n, pl⟩ := x
  obtain ⟨sst, scl, snx, sen, sal, sru, sstp⟩ := s
  simp only [] at hs hc hd h17 ⊢
  subst hs hc
  have hl4 : ({ st := st.reverse, cl := scl, next := snx, ended := sen, al := sal, ru := sru, stp := sstp } : MS).st.length ≤ 4000 := by simp; omega
  have e : op = 1 ∨ op = 2 ∨ op = 3 ∨ op = 4 ∨ op = 5 ∨ op = 6 ∨ op = 7 ∨ op = 8 ∨ op = 9 ∨ op = 10 ∨ op = 11 ∨ op = 12 ∨ op = 13 ∨ op = 14 ∨ op = 15 ∨ op = 16 := by have : 1 ≤ op ∧ op ≤ 18 := hx.op; omega
  have two : ∀ {t u : Nat} {more : List Nat}, takesK [t, u] more k = some k' → ∃ b a r, st = b :: a :: r ∧ HasT t b ∧ HasT u a := fun {t u more} he => by
    obtain ⟨e1, _⟩ := takes_st he
    have ht := hft.typ
    rw [e1] at ht
    obtain ⟨b, r1, rfl, h1, h2⟩ := TypedS.cons ht
    obtain ⟨a, r2, rfl, h3, _⟩ := TypedS.cons h2
    exact ⟨b, a, r2, rfl, h1, h3⟩
  have one : ∀ {t : Nat} {more : List Nat}, takesK [t] more k = some k' → ∃ b r, st = b :: r ∧ HasT t b := fun {t more} he => by
    obtain ⟨e1, _⟩ := takes_st he
    have ht := hft.typ
    rw [e1] at ht
    obtain ⟨b, r1, rfl, h1, _⟩ := TypedS.cons ht
    exact ⟨b, r1, rfl, h1⟩
  rcases e with rfl | rfl | rfl | rfl | rfl | rfl | rfl | rfl | rfl | rfl | rfl | rfl | rfl | rfl | rfl | rfl
  · obtain ⟨rfl, rfl, rfl⟩ : st' = n :: st ∧ cl' = scl ∧ j = false := by have : some (n :: st, scl, false) = some (st', cl', j) := hst; simp at this; exact ⟨this.1.symm, this.2.1.symm, this.2.2⟩
    have := mlay_any 1 n tj (pl : Nat) h hl4
    rw [rpush_cons] at this; exact this
  · obtain ⟨rfl, rfl, rfl⟩ : st' = n :: st ∧ cl' = scl ∧ j = false := by have : some (n :: st, scl, false) = some (st', cl', j) := hst; simp at this; exact ⟨this.1.symm, this.2.1.symm, this.2.2⟩
    have := mlay_any 2 n tj (pl : Nat) h hl4
    rw [rpush_cons] at this; exact this
  · obtain ⟨rfl, rfl, rfl⟩ : st' = n :: st ∧ cl' = scl ∧ j = false := by have : some (n :: st, scl, false) = some (st', cl', j) := hst; simp at this; exact ⟨this.1.symm, this.2.1.symm, this.2.2⟩
    have := mlay_any 3 n tj (pl : Nat) h hl4
    rw [rpush_cons] at this; exact this
  · obtain ⟨rfl, rfl, rfl⟩ : st' = fl.getD n.toNat 0 :: st ∧ cl' = scl ∧ j = false := by have : some (fl.getD n.toNat 0 :: st, scl, false) = some (st', cl', j) := hst; simp at this; exact ⟨this.1.symm, this.2.1.symm, this.2.2⟩
    obtain ⟨a1, a2, _⟩ := hx.two rfl
    have a2' : n ≤ 8 := a2
    obtain ⟨m, rfl⟩ : ∃ m : Nat, n = m := ⟨n.toNat, by have : 0 ≤ n := a1; omega⟩
    have := mfield_any 4 m tj (pl : Nat) h hl4 (by omega)
    rw [rpush_cons] at this; exact this
  · obtain ⟨a1, a2, _⟩ := hx.two rfl
    have a2' : n ≤ (cells : Int) - 1 := a2
    obtain ⟨m, rfl⟩ : ∃ m : Nat, n = m := ⟨n.toNat, by have : 0 ≤ n := a1; omega⟩
    have hlen := hft.len
    cases st with
    | nil => exact absurd hst (by simp [stepK])
    | cons v r =>
      obtain ⟨rfl, rfl, rfl⟩ : st' = r ∧ cl' = scl.set m v ∧ j = false := by have : some (r, scl.set m v, false) = some (st', cl', j) := hst; simp at this; exact ⟨this.1.symm, this.2.1.symm, this.2.2⟩
      have := mput_any 5 m tj (pl : Nat) h hl4 (by simp only []; omega) (by simp only []; omega)
      simp only [] at this
      rw [rtop_cons, rrest_cons] at this; exact this
  · obtain ⟨a1, a2, _⟩ := hx.two rfl
    have a2' : n ≤ (cells : Int) - 1 := a2
    obtain ⟨m, rfl⟩ : ∃ m : Nat, n = m := ⟨n.toNat, by have : 0 ≤ n := a1; omega⟩
    have hlen := hft.len
    obtain ⟨rfl, rfl, rfl⟩ : st' = scl.getD m 0 :: st ∧ cl' = scl ∧ j = false := by have : some (scl.getD m 0 :: st, scl, false) = some (st', cl', j) := hst; simp at this; exact ⟨this.1.symm, this.2.1.symm, this.2.2⟩
    have := mget_any 6 m tj (pl : Nat) h hl4 (by simp only []; omega) (by simp only []; omega)
    rw [rpush_cons] at this; exact this
  · obtain ⟨b, a, r, rfl, hb, ha⟩ := two hd
    obtain ⟨rfl, rfl, rfl⟩ : st' = clampI (a + b) :: r ∧ cl' = scl ∧ j = false := by have : some (clampI (a + b) :: r, scl, false) = some (st', cl', j) := hst; simp at this; exact ⟨this.1.symm, this.2.1.symm, this.2.2⟩
    have := mAdd_any 7 n tj (pl : Nat) h hl4 (rtop_cons b (a :: r)) (by simp only []; rw [rrest_cons]; exact rtop_cons a r) (fun w => padd_any ha.1 hb.1 w)
    simp only [] at this
    rw [rrest_cons, rrest_cons, rpush_cons] at this; exact this
  · obtain ⟨b, a, r, rfl, hb, ha⟩ := two hd
    obtain ⟨rfl, rfl, rfl⟩ : st' = clampI (a - b) :: r ∧ cl' = scl ∧ j = false := by have : some (clampI (a - b) :: r, scl, false) = some (st', cl', j) := hst; simp at this; exact ⟨this.1.symm, this.2.1.symm, this.2.2⟩
    have := mSub_any 8 n tj (pl : Nat) h hl4 (rtop_cons b (a :: r)) (by simp only []; rw [rrest_cons]; exact rtop_cons a r) (fun w => psub_any ha.1 hb.1 w)
    simp only [] at this
    rw [rrest_cons, rrest_cons, rpush_cons] at this; exact this
  · have h9 : ∃ b a r, st = b :: a :: r := by
      have e9 : doesK 9 n.toNat k = (match k.st with
        | x :: y :: r => if x = y then some ⟨2 :: r, k.cl⟩ else none
        | _ => none) := rfl
      rw [e9] at hd
      split at hd
      · rename_i y z q hks
        have ht := hft.typ
        rw [hks] at ht
        obtain ⟨b, r1, rfl, h1, h2⟩ := TypedS.cons ht
        obtain ⟨a, r2, rfl, h3, _⟩ := TypedS.cons h2
        exact ⟨b, a, r2, rfl⟩
      · cases hd
    obtain ⟨b, a, r, rfl⟩ := h9
    obtain ⟨rfl, rfl, rfl⟩ : st' = truthI (a == b) :: r ∧ cl' = scl ∧ j = false := by have : some (truthI (a == b) :: r, scl, false) = some (st', cl', j) := hst; simp only [Option.some.injEq, Prod.mk.injEq] at this; exact ⟨this.1.symm, this.2.1.symm, this.2.2.symm⟩
    have := mEqual_any 9 n tj (pl : Nat) h hl4 (rtop_cons b (a :: r)) (by simp only []; rw [rrest_cons]; exact rtop_cons a r) (fun w => pequal_any a b w)
    simp only [] at this
    rw [rrest_cons, rrest_cons, rpush_cons] at this; exact this
  · obtain ⟨b, a, r, rfl, hb, ha⟩ := two hd
    obtain ⟨rfl, rfl, rfl⟩ : st' = truthI (decide (a < b)) :: r ∧ cl' = scl ∧ j = false := by have : some (truthI (decide (a < b)) :: r, scl, false) = some (st', cl', j) := hst; simp only [Option.some.injEq, Prod.mk.injEq] at this; exact ⟨this.1.symm, this.2.1.symm, this.2.2.symm⟩
    have := mLess_any 10 n tj (pl : Nat) h hl4 (rtop_cons b (a :: r)) (by simp only []; rw [rrest_cons]; exact rtop_cons a r) (fun w => pless_any a b w)
    simp only [] at this
    rw [rrest_cons, rrest_cons, rpush_cons] at this; exact this
  · obtain ⟨b, a, r, rfl, hb, ha⟩ := two hd
    obtain ⟨rfl, rfl, rfl⟩ : st' = truthI (decide (a ≤ b)) :: r ∧ cl' = scl ∧ j = false := by have : some (truthI (decide (a ≤ b)) :: r, scl, false) = some (st', cl', j) := hst; simp only [Option.some.injEq, Prod.mk.injEq] at this; exact ⟨this.1.symm, this.2.1.symm, this.2.2.symm⟩
    have := mAtMost_any 11 n tj (pl : Nat) h hl4 (rtop_cons b (a :: r)) (by simp only []; rw [rrest_cons]; exact rtop_cons a r) (fun w => patmost_any a b w)
    simp only [] at this
    rw [rrest_cons, rrest_cons, rpush_cons] at this; exact this
  · obtain ⟨b, r, rfl, hb⟩ := one hd
    obtain ⟨rfl, rfl, rfl⟩ : st' = (1 - b) :: r ∧ cl' = scl ∧ j = false := by have : some ((1 - b) :: r, scl, false) = some (st', cl', j) := hst; simp only [Option.some.injEq, Prod.mk.injEq] at this; exact ⟨this.1.symm, this.2.1.symm, this.2.2.symm⟩
    have := mnot_any 12 n tj (pl : Nat) h hl4 (rtop_cons b r) (fun w => pnot_any (hb.2 rfl) w)
    simp only [] at this
    rw [rrest_cons, rpush_cons] at this; exact this
  · obtain ⟨b, a, r, rfl, hb, ha⟩ := two hd
    obtain ⟨rfl, rfl, rfl⟩ : st' = truthI (a == 1 && b == 1) :: r ∧ cl' = scl ∧ j = false := by have : some (truthI (a == 1 && b == 1) :: r, scl, false) = some (st', cl', j) := hst; simp only [Option.some.injEq, Prod.mk.injEq] at this; exact ⟨this.1.symm, this.2.1.symm, this.2.2.symm⟩
    have := mAnd_any 13 n tj (pl : Nat) h hl4 (rtop_cons b (a :: r)) (by simp only []; rw [rrest_cons]; exact rtop_cons a r) (fun w => pand_any a b w)
    simp only [] at this
    rw [rrest_cons, rrest_cons, rpush_cons] at this; exact this
  · obtain ⟨b, a, r, rfl, hb, ha⟩ := two hd
    obtain ⟨rfl, rfl, rfl⟩ : st' = truthI (a == 1 || b == 1) :: r ∧ cl' = scl ∧ j = false := by have : some (truthI (a == 1 || b == 1) :: r, scl, false) = some (st', cl', j) := hst; simp only [Option.some.injEq, Prod.mk.injEq] at this; exact ⟨this.1.symm, this.2.1.symm, this.2.2.symm⟩
    have := mOr_any 14 n tj (pl : Nat) h hl4 (rtop_cons b (a :: r)) (by simp only []; rw [rrest_cons]; exact rtop_cons a r) (fun w => por_any a b w)
    simp only [] at this
    rw [rrest_cons, rrest_cons, rpush_cons] at this; exact this
  · obtain ⟨b, r, rfl, hb⟩ := one hd
    obtain ⟨rfl, rfl, rfl⟩ : st' = r ∧ cl' = scl ∧ j = (b == 0) := by have : some (r, scl, b == 0) = some (st', cl', j) := hst; simp only [Option.some.injEq, Prod.mk.injEq] at this; exact ⟨this.1.symm, this.2.1.symm, this.2.2.symm⟩
    have := mjumpU_any 15 n tj (pl : Nat) h hl4
    simp only [] at this
    rw [rtop_cons, rrest_cons] at this
    have e2 : (if b = 0 then tj else snx) = (if (b == 0) = true then tj else snx) := by simp
    rw [e2] at this; exact this
  · obtain ⟨rfl, rfl, rfl⟩ : st' = st ∧ cl' = scl ∧ j = true := by have : some (st, scl, true) = some (st', cl', j) := hst; simp only [Option.some.injEq, Prod.mk.injEq] at this; exact ⟨this.1.symm, this.2.1.symm, this.2.2.symm⟩
    exact mjump_any 16 n tj (pl : Nat) (MOut.refl h)
end Go.Proofs.YtfkdailfcmnjlaaGreatDoor
