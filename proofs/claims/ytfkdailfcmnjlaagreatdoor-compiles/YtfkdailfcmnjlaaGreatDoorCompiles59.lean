/-
  Every Load and every Judge of the program is the document's.
-/
import Derived.Test.YtfkdailfcmnjlaaGreatDoorCompiles01
import Derived.Test.YtfkdailfcmnjlaaGreatDoorCompiles02
import Derived.Test.YtfkdailfcmnjlaaGreatDoorCompiles04
import Derived.Test.YtfkdailfcmnjlaaGreatDoorCompiles05
import Derived.Test.YtfkdailfcmnjlaaGreatDoorCompiles06
import Derived.Test.YtfkdailfcmnjlaaGreatDoorCompiles07
import Derived.Test.YtfkdailfcmnjlaaGreatDoorCompiles08
import Derived.Test.YtfkdailfcmnjlaaGreatDoorCompiles09
import Derived.Test.YtfkdailfcmnjlaaGreatDoorCompiles10
import Derived.Test.YtfkdailfcmnjlaaGreatDoorCompiles11
import Derived.Test.YtfkdailfcmnjlaaGreatDoorCompiles12
import Derived.Test.YtfkdailfcmnjlaaGreatDoorCompiles13
import Derived.Test.YtfkdailfcmnjlaaGreatDoorCompiles14
import Derived.Test.YtfkdailfcmnjlaaGreatDoorCompiles15
import Derived.Test.YtfkdailfcmnjlaaGreatDoorCompiles16
import Derived.Test.YtfkdailfcmnjlaaGreatDoorCompiles17
import Derived.Test.YtfkdailfcmnjlaaGreatDoorCompiles18
import Derived.Test.YtfkdailfcmnjlaaGreatDoorCompiles19
import Derived.Test.YtfkdailfcmnjlaaGreatDoorCompiles20
import Derived.Test.YtfkdailfcmnjlaaGreatDoorCompiles21
import Derived.Test.YtfkdailfcmnjlaaGreatDoorCompiles22
import Derived.Test.YtfkdailfcmnjlaaGreatDoorCompiles23
import Derived.Test.YtfkdailfcmnjlaaGreatDoorCompiles24
import Derived.Test.YtfkdailfcmnjlaaGreatDoorCompiles27
import Derived.Test.YtfkdailfcmnjlaaGreatDoorCompiles28
import Derived.Test.YtfkdailfcmnjlaaGreatDoorCompiles29
import Derived.Test.YtfkdailfcmnjlaaGreatDoorCompiles30
import Derived.Test.YtfkdailfcmnjlaaGreatDoorCompiles31
import Derived.Test.YtfkdailfcmnjlaaGreatDoorCompiles32
import Derived.Test.YtfkdailfcmnjlaaGreatDoorCompiles34
import Derived.Test.YtfkdailfcmnjlaaGreatDoorCompiles35
import Derived.Test.YtfkdailfcmnjlaaGreatDoorCompiles36
import Derived.Test.YtfkdailfcmnjlaaGreatDoorCompiles37
import Derived.Test.YtfkdailfcmnjlaaGreatDoorCompiles38
import Derived.Test.YtfkdailfcmnjlaaGreatDoorCompiles39
import Derived.Test.YtfkdailfcmnjlaaGreatDoorCompiles40
import Derived.Test.YtfkdailfcmnjlaaGreatDoorCompiles41
import Derived.Test.YtfkdailfcmnjlaaGreatDoorCompiles43
import Derived.Test.YtfkdailfcmnjlaaGreatDoorCompiles44
import Derived.Test.YtfkdailfcmnjlaaGreatDoorCompiles45
import Derived.Test.YtfkdailfcmnjlaaGreatDoorCompiles53
import Derived.Test.YtfkdailfcmnjlaaGreatDoorCompiles54
import Derived.Test.YtfkdailfcmnjlaaGreatDoorCompiles55
import Derived.Test.YtfkdailfcmnjlaaGreatDoorCompiles56
import Derived.Test.YtfkdailfcmnjlaaGreatDoorCompiles57
import Derived.Test.YtfkdailfcmnjlaaGreatDoorCompiles58
import Derived.Test.YtfkdailfcmnjlaaGreatDoorLays
import Derived.Test.YtfkdailfcmnjlaaGreatDoorLays2
import Derived.WalkKit
import Derived.Deep.QuietTactic
import Derived.BigQuiet
import Derived.WalkSpells
import GoSem.Op.String
import Derived.Deep.AppendLies
import Derived.Deep.RegionHeld3
import Derived.Deep.DrawnRows
import Derived.Deep.RegionHeldLaw
import Derived.Deep.RegionLaw
import Derived.Lib.ParseIntBCases
import Derived.Deep.OwnRows
import Derived.Lib.LaidTab
import Derived.Lib.AppendIntMem
import Derived.Shelf.Strings.Builder1
import Derived.Laws.CopyOwn
import Derived.Deep.DeepCutAuto
import Derived.WalkSmall
import Derived.Lib.AppendZerosOnto
import Derived.Lib.SliceRun
import Derived.Shelf.Abstract
import Derived.Deep.CutBlock
set_option linter.unusedVariables false
set_option linter.unusedSimpArgs false
namespace Go.Proofs.YtfkdailfcmnjlaaGreatDoor
open Go Go.RowKit
set_option maxRecDepth 100000
attribute [local go_sem ↓] Go.wp_at_zero Go.wp_at_succ

theorem numd_any (n : Nat) (hn : n ≤ 7) (w : World) : Calls Tryz.prog 13 #[.int .i64 n] w fun e w' => e = .returned (.int .i64 n) ∧ w' = w := by
  go_enter Tryz.func13, Tryz.ntmps13
  go_wp2
  all_goals go_ret
  all_goals exact ⟨ret_int (by go_num), rfl⟩
set_option maxHeartbeats 4000000 in
theorem judges_any {lv mv : Value} (b : List UInt8) (e : Ev) (s : Stt) (w : World) (hE : Ef w) (h1 : PairsAt lv s.levels w) (h2 : PairsAt mv s.members w) (hl1 : s.levels.length ≤ 5900000000000) (hl2 : s.members.length ≤ 5900000000000) (hw : In64 e.wants) (hF : FieldsT (fieldsL e s)) :
    Calls Tryz.prog 27 #[S b, evV e, sttV lv mv s] w fun en w' => en = .returned (.bool true) ∧ Below w.heap.size w w' := by
  have W1 := fun W (h : Below w.heap.size w W) => gload_any b (w := W) (hE.below hE.pos h)
  have W2 := fun W => rload_any b W
  have W3 := fun w => numd_any 7 (by decide) w
  have W4 := fun w => numd_any 0 (by decide) w
  have W5 := fun (W : World) (ins : List Ins) (lp cp gi cap rp : Nat) (A : Bool) (Ru St : Nat) (h : Below w.heap.size w W) (hld : loadOf b = some ins) (hlp : W.heap[lp]? = some (.cells #[.pointer (some ⟨cp, 0, none⟩)] 207 (0, 0))) (hca : CodeAt W cp gi cap (byteAt b 2) (byteAt b 1) ins) (hrp : W.heap[rp]? = some (.cells #[S b] 130 (0, 0))) (hj : judgeOf b ins (fieldsL e s) = some (A, Ru, St)) => judged_any e s W hld hlp hca hrp hj (h1.below h) (h2.below h) hl1 hl2 hw hF
  have HJ : Hid (∀ ins, loadOf b = some ins → ∃ A Ru St, judgeOf b ins (fieldsL e s) = some (A, Ru, St)) := fun ins hld => by
    obtain ⟨a, r, q, h, _⟩ := judge_ok hld hF
    exact ⟨a, r, q, h⟩
  have hol : lv.oneCell' = true := by obtain ⟨_, a, c, rfl, _⟩ := h1; rfl
  have hom : mv.oneCell' = true := by obtain ⟨_, a, c, rfl, _⟩ := h2; rfl
  clear h1 h2 hw hE hl1 hl2 hF
  unfold evV sttV at *
  obtain ⟨sn, tg, wa, nd, wh⟩ := e
  obtain ⟨ls, df, ms, op⟩ := s
  simp only [] at *
  have H0 : Hid (Below w.heap.size w ((w.alloc (.cells #[S sn, S tg, .int .i64 wa, .int .i64 nd, .int .i64 wh] 46 (0, 0))).alloc (.cells #[lv, .int .i64 df, mv, .bool op] 50 (0, 0))) ∧ ((w.alloc (.cells #[S sn, S tg, .int .i64 wa, .int .i64 nd, .int .i64 wh] 46 (0, 0))).alloc (.cells #[lv, .int .i64 df, mv, .bool op] 50 (0, 0))).heap[w.heap.size]? = some (.cells #[S sn, S tg, .int .i64 wa, .int .i64 nd, .int .i64 wh] 46 (0, 0)) ∧ ((w.alloc (.cells #[S sn, S tg, .int .i64 wa, .int .i64 nd, .int .i64 wh] 46 (0, 0))).alloc (.cells #[lv, .int .i64 df, mv, .bool op] 50 (0, 0))).heap[w.heap.size + 1]? = some (.cells #[lv, .int .i64 df, mv, .bool op] 50 (0, 0))) :=
    ⟨((Below.refl _ _).alloc (Nat.le_refl _) _).alloc (by simp) _, by rw [Below.heap_alloc _ _ _ (by simp)]; exact heap_alloc_new w _, by have e := heap_alloc_new (w.alloc (.cells #[S sn, S tg, .int .i64 wa, .int .i64 nd, .int .i64 wh] 46 (0, 0))) (.cells #[lv, .int .i64 df, mv, .bool op] 50 (0, 0)); rw [World.size_alloc] at e; exact e⟩
  unfold GLoadAns at W1
  unfold RLoadAns at W2
  cases hld : loadOf b with
  | none =>
    rw [hld] at W1 W2
    simp only [] at W1 W2
    go_enter Tryz.func27, Tryz.ntmps27
    go_wp2_with fail
    obtain ⟨hB0, hE0, hS0⟩ := H0.out
    clear H0
    generalize ((w.alloc (.cells #[S sn, S tg, .int .i64 wa, .int .i64 nd, .int .i64 wh] 46 (0, 0))).alloc (.cells #[lv, .int .i64 df, mv, .bool op] 50 (0, 0))) = wz at *
    refine (W1 wz hB0).mono ?_
    rintro en w1 ⟨rfl, hb1⟩
    have HB1 : Hid _ := hB0.trans (hb1.mono hB0.size)
    clear W1 hb1 hB0 hE0 hS0
    go_wp2_with fail
    refine (W2 _).mono ?_
    rintro en w2 ⟨rfl, hb2⟩
    have HB2 : Hid _ := HB1.out.trans (hb2.mono HB1.out.size)
    clear W2 hb2
    go_wp2_with fail
    refine (W3 _).mono ?_
    rintro en w3 ⟨rfl, rfl⟩
    go_wp2
    go_ret
    exact ⟨rfl, HB2.out⟩
  | some ins =>
    rw [hld] at W1 W2
    simp only [] at W1 W2
    obtain ⟨A, Ru, St, hj⟩ := HJ.out ins hld
    go_enter Tryz.func27, Tryz.ntmps27
    go_wp2_with fail
    obtain ⟨hB0, hE0, hS0⟩ := H0.out
    clear H0
    generalize ((w.alloc (.cells #[S sn, S tg, .int .i64 wa, .int .i64 nd, .int .i64 wh] 46 (0, 0))).alloc (.cells #[lv, .int .i64 df, mv, .bool op] 50 (0, 0))) = wz at *
    refine (W1 wz hB0).mono ?_
    rintro en w1 ⟨⟨lp, cp, gi, cap, rfl, hlp, hca⟩, hb1⟩
    have hB1 := hB0.trans (hb1.mono hB0.size)
    have hE1 := (hb1.block _ (lt_of_get hE0)).trans hE0
    have hS1 := (hb1.block _ (lt_of_get hS0)).trans hS0
    have H1 : Hid _ := And.intro hB1 (And.intro hE1 (And.intro hS1 (And.intro hlp hca)))
    clear W1 hb1 hB0 hE0 hS0 hlp hca hB1 hE1 hS1
    go_wp2_with fail
    refine (W2 _).mono ?_
    rintro en w2 ⟨⟨rp, hrl, rfl, hrp⟩, hb2⟩
    obtain ⟨hB1, hE1, hS1, hlp, hca⟩ := H1.out
    have hB2 := hB1.trans (hb2.mono hB1.size)
    have hE2 := (hb2.block _ (lt_of_get hE1)).trans hE1
    have hS2 := (hb2.block _ (lt_of_get hS1)).trans hS1
    have hlp2 := (hb2.block _ (lt_of_get hlp)).trans hlp
    have hca2 := hca.below hb2
    have c0 := cell_of_row w2 w.heap.size 0 _ _ _ hE2
    have c1 := cell_of_row w2 w.heap.size 1 _ _ _ hE2
    have c2 := cell_of_row w2 w.heap.size 2 _ _ _ hE2
    have c3 := cell_of_row w2 w.heap.size 3 _ _ _ hE2
    have c4 := cell_of_row w2 w.heap.size 4 _ _ _ hE2
    have d0 := cell_of_row w2 (w.heap.size + 1) 0 _ _ _ hS2
    have d1 := cell_of_row w2 (w.heap.size + 1) 1 _ _ _ hS2
    have d2 := cell_of_row w2 (w.heap.size + 1) 2 _ _ _ hS2
    have d3 := cell_of_row w2 (w.heap.size + 1) 3 _ _ _ hS2
    simp only [List.getElem?_toArray, List.getElem?_cons_zero, List.getElem?_cons_succ] at c0 c1 c2 c3 c4 d0 d1 d2 d3
    have V5 := W5 w2 ins lp cp gi cap rp A Ru St hB2 hld hlp2 hca2 hrp hj
    have HB2 : Hid _ := hB2
    clear W2 hb2 H1 hB1 hE1 hS1 hlp hca hB2 hE2 hS2 hlp2 hca2 hrp W5 hj
    go_wp2_with fail
    refine (W4 _).mono ?_
    rintro en w3 ⟨rfl, rfl⟩
    go_wp2_with fail
    refine V5.mono ?_
    rintro en w4 ⟨rfl, hb4⟩
    have HB4 : Hid _ := HB2.out.trans (hb4.mono HB2.out.size)
    clear V5 hb4 c0 c1 c2 c3 c4 d0 d1 d2 d3
    go_wp2
    go_ret
    exact ⟨rfl, HB4.out⟩
end Go.Proofs.YtfkdailfcmnjlaaGreatDoor
