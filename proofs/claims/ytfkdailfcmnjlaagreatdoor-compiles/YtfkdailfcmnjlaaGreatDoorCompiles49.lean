/-
  Items that are reached.
-/
import Derived.Test.YtfkdailfcmnjlaaGreatDoorCompiles01
import Derived.Test.YtfkdailfcmnjlaaGreatDoorCompiles02
import Derived.Test.YtfkdailfcmnjlaaGreatDoorCompiles04
import Derived.Test.YtfkdailfcmnjlaaGreatDoorCompiles05
import Derived.Test.YtfkdailfcmnjlaaGreatDoorCompiles06
import Derived.Test.YtfkdailfcmnjlaaGreatDoorCompiles07
import Derived.Test.YtfkdailfcmnjlaaGreatDoorCompiles08
import Derived.Test.YtfkdailfcmnjlaaGreatDoorCompiles09
import Derived.Test.YtfkdailfcmnjlaaGreatDoorCompiles10
import Derived.Test.YtfkdailfcmnjlaaGreatDoorCompiles11
import Derived.Test.YtfkdailfcmnjlaaGreatDoorCompiles12
import Derived.Test.YtfkdailfcmnjlaaGreatDoorCompiles13
import Derived.Test.YtfkdailfcmnjlaaGreatDoorCompiles14
import Derived.Test.YtfkdailfcmnjlaaGreatDoorCompiles15
import Derived.Test.YtfkdailfcmnjlaaGreatDoorCompiles16
import Derived.Test.YtfkdailfcmnjlaaGreatDoorCompiles17
import Derived.Test.YtfkdailfcmnjlaaGreatDoorCompiles18
import Derived.Test.YtfkdailfcmnjlaaGreatDoorCompiles19
import Derived.Test.YtfkdailfcmnjlaaGreatDoorCompiles20
import Derived.Test.YtfkdailfcmnjlaaGreatDoorCompiles21
import Derived.Test.YtfkdailfcmnjlaaGreatDoorCompiles22
import Derived.Test.YtfkdailfcmnjlaaGreatDoorCompiles23
import Derived.Test.YtfkdailfcmnjlaaGreatDoorCompiles24
import Derived.Test.YtfkdailfcmnjlaaGreatDoorCompiles25
import Derived.Test.YtfkdailfcmnjlaaGreatDoorCompiles26
import Derived.Test.YtfkdailfcmnjlaaGreatDoorCompiles27
import Derived.Test.YtfkdailfcmnjlaaGreatDoorCompiles28
import Derived.Test.YtfkdailfcmnjlaaGreatDoorCompiles29
import Derived.Test.YtfkdailfcmnjlaaGreatDoorCompiles30
import Derived.Test.YtfkdailfcmnjlaaGreatDoorCompiles31
import Derived.Test.YtfkdailfcmnjlaaGreatDoorCompiles32
import Derived.Test.YtfkdailfcmnjlaaGreatDoorCompiles34
import Derived.Test.YtfkdailfcmnjlaaGreatDoorCompiles35
import Derived.Test.YtfkdailfcmnjlaaGreatDoorCompiles37
import Derived.Test.YtfkdailfcmnjlaaGreatDoorCompiles38
import Derived.Test.YtfkdailfcmnjlaaGreatDoorCompiles39
import Derived.Test.YtfkdailfcmnjlaaGreatDoorCompiles40
import Derived.Test.YtfkdailfcmnjlaaGreatDoorCompiles41
import Derived.Test.YtfkdailfcmnjlaaGreatDoorCompiles42
import Derived.Test.YtfkdailfcmnjlaaGreatDoorCompiles43
import Derived.Test.YtfkdailfcmnjlaaGreatDoorCompiles46
import Derived.Test.YtfkdailfcmnjlaaGreatDoorCompiles47
import Derived.Test.YtfkdailfcmnjlaaGreatDoorCompiles48
import Derived.Test.YtfkdailfcmnjlaaGreatDoorLays
import Derived.Test.YtfkdailfcmnjlaaGreatDoorLays2
import Derived.WalkKit
import Derived.Deep.QuietTactic
import Derived.BigQuiet
import Derived.WalkSpells
import GoSem.Op.String
import Derived.Deep.AppendLies
import Derived.Deep.RegionHeld3
import Derived.Deep.DrawnRows
import Derived.Deep.RegionHeldLaw
import Derived.Deep.RegionLaw
import Derived.Lib.ParseIntBCases
import Derived.Deep.OwnRows
import Derived.Lib.LaidTab
import Derived.Lib.AppendIntMem
import Derived.Shelf.Strings.Builder1
import Derived.Laws.CopyOwn
import Derived.Deep.DeepCutAuto
import Derived.WalkSmall
import Derived.Lib.AppendZerosOnto
import Derived.Deep.Upon
set_option linter.unusedVariables false
set_option linter.unusedSimpArgs false
namespace Go.Proofs.YtfkdailfcmnjlaaGreatDoor
open Go Go.RowKit
set_option maxRecDepth 100000
attribute [local go_sem ↓] Go.wp_at_zero Go.wp_at_succ

set_option maxHeartbeats 8000000 in
theorem reached_any {F : Nat → Prop} {d : Nat} {xs : List ItT} {ys : List Yt} {v : Value} {w : World} (hv : RowF w v ys) (hI : ItsF F d w xs ys) (hl : ys.length ≤ 1001) :
    Calls Tryz.prog 132 #[v] w fun e w' => ∃ v' ys', e = .returned v' ∧ KpI F d w w' v' (reaT xs) ys' ∧ ys'.length ≤ ys.length := by
  obtain ⟨a, cap, rfl, hq⟩ := hv
  have HQ : Hid _ := hq
  have HI : Hid (ItsF F d w xs ys) := hI
  have H0 : Hid (KpI F d w w (.slice none 0 0) [] [] ∧ [] ++ reaT (xs.drop 0) = reaT xs) := ⟨⟨World.ownsRow_nil _ _ _ _, Below.refl _ _, ItsF.nil⟩, rfl⟩
  obtain ⟨i0, hi, hz0, hz1, hz2⟩ := info_parts info_pitem
  clear hq hI
  go_enter Tryz.func132, Tryz.ntmps132
  go_wp2_with fail
  go_loopw [3, 9] (fun vv iv wr => ∃ (k : Nat) (ks : List ItT) (zs : List Yt), k ≤ ys.length ∧ iv = .int .i64 k ∧ zs.length ≤ k ∧ Hid (KpI F d w wr vv ks zs ∧ ks ++ reaT (xs.drop k) = reaT xs)) (fun _ iv _ => ys.length - (intOf iv).toNat)
  case atStart => exact ⟨0, [], [], Nat.zero_le _, rfl, Nat.le_refl _, H0.out⟩
  case round =>
    obtain ⟨k, ks, zs, hkk, rfl, hzk, HX⟩ := hrel
    by_cases hlt : k < ys.length
    · have hX := HX.out.1
      have hE := HX.out.2
      obtain ⟨g, rfl, hgl, hcells⟩ := HQ.out k hlt
      have hIt := HI.out.2 k hlt
      rw [drop_at (by rw [HI.out.1]; exact hlt) noIt] at hE
      generalize xs.getD k noIt = x at *
      generalize ys.getD k noY = y at *
      obtain ⟨t0, u0, b, wh⟩ := y
      have HIT : Hid _ := hIt
      have hkd := hIt.kd
      have hwh := hIt.wh
      obtain ⟨hbl, hbk⟩ := trF_k hIt.tr
      simp only [] at hkd hwh hbl hbk
      obtain ⟨va, vcap, ev⟩ := rowSl hX.row
      obtain rfl := ev
      have hbw := hX.bel
      have hct : ∀ j, j < 10 → wr.cell? ⟨g, k * 10 + j, none⟩ = (icell (t0, u0, b, wh))[j]? := fun j hj => by
        rw [hbw.cell (p := ⟨g, k * 10 + j, none⟩) hgl]; exact hcells j hj
      have c0 : wr.cell? ⟨g, k * 10, none⟩ = some (.int .i64 (kindOf t0)) := hct 0 (by omega)
      have c1 : wr.cell? ⟨g, k * 10 + 1, none⟩ = some (.int .i64 t0.pl) := hct 1 (by omega)
      have c2 : wr.cell? ⟨g, k * 10 + 2, none⟩ = some (.int .i64 (nmOf t0)) := hct 2 (by omega)
      have c3 : wr.cell? ⟨g, k * 10 + 3, none⟩ = some (S (ownOf t0)) := hct 3 (by omega)
      have c4 : wr.cell? ⟨g, k * 10 + 4, none⟩ = some (.int .i64 (kindOf u0)) := hct 4 (by omega)
      have c5 : wr.cell? ⟨g, k * 10 + 5, none⟩ = some (.int .i64 u0.pl) := hct 5 (by omega)
      have c6 : wr.cell? ⟨g, k * 10 + 6, none⟩ = some (.int .i64 (nmOf u0)) := hct 6 (by omega)
      have c7 : wr.cell? ⟨g, k * 10 + 7, none⟩ = some (S (ownOf u0)) := hct 7 (by omega)
      have c8 : wr.cell? ⟨g, k * 10 + 8, none⟩ = some (.int .i64 wh) := hct 8 (by omega)
      have c9 : wr.cell? ⟨g, k * 10 + 9, none⟩ = some (.pointer (some ⟨b, 0, none⟩)) := hct 9 (by omega)
      have hkb : (0 : Int) ≤ (k : Int) ∧ (k : Int) < (ys.length : Int) := by omega
      have hbk' : wr.cell? ⟨b, 0, none⟩ = some (.int .i64 (x.c.k : Nat)) := by rw [hbw.cell (p := ⟨b, 0, none⟩) hbl]; exact hbk
      have hb1 : Below wr.heap.size wr (wr.alloc (itObjW t0 u0 wh (.pointer (some ⟨b, 0, none⟩)))) := (Below.refl _ _).alloc (Nat.le_refl _) _
      have hz1' : (wr.alloc (itObjW t0 u0 wh (.pointer (some ⟨b, 0, none⟩)))).heap[wr.heap.size]? = some (itObjW t0 u0 wh (.pointer (some ⟨b, 0, none⟩))) := heap_alloc_new wr _
      have hbk2 : (wr.alloc (itObjW t0 u0 wh (.pointer (some ⟨b, 0, none⟩)))).cell? ⟨b, 0, none⟩ = some (.int .i64 (x.c.k : Nat)) := by rw [hb1.cell (p := ⟨b, 0, none⟩) (by have := hbw.size; simp only []; omega)]; exact hbk'
      have HCX : Hid _ := hX
      have hws : w.heap.size ≤ wr.heap.size := hbw.size
      unfold itObjW at hb1 hz1' hbk2
      have HB1 : Hid _ := hb1
      obtain ⟨⟨z0, z1, z2, z3, z4, z5, z6, z7, z8, z9⟩, zf⟩ := it_cells hz1'
      have HNG : Hid _ := HCX.out.grow hb1
      have hil : wr.heap.size < (wr.alloc (.cells #[.int .i64 (kindOf t0), .int .i64 t0.pl, .int .i64 (nmOf t0), S (ownOf t0), .int .i64 (kindOf u0), .int .i64 u0.pl, .int .i64 (nmOf u0), S (ownOf u0), .int .i64 wh, .pointer (some ⟨b, 0, none⟩)] 163)).heap.size := by simp
      have hbl1 : b < (wr.alloc (.cells #[.int .i64 (kindOf t0), .int .i64 t0.pl, .int .i64 (nmOf t0), S (ownOf t0), .int .i64 (kindOf u0), .int .i64 u0.pl, .int .i64 (nmOf u0), S (ownOf u0), .int .i64 wh, .pointer (some ⟨b, 0, none⟩)] 163)).heap.size := by simp; omega
      have hin : (Value.slice va zs.length vcap).ownBlock ≠ some wr.heap.size := fun e => by have := (hX.row.lt _ e).2; omega
      have hbn : (Value.slice va zs.length vcap).ownBlock ≠ some b := fun e => by have := (hX.row.lt _ e).1; omega
      have hws1 : w.heap.size ≤ (wr.alloc (.cells #[.int .i64 (kindOf t0), .int .i64 t0.pl, .int .i64 (nmOf t0), S (ownOf t0), .int .i64 (kindOf u0), .int .i64 u0.pl, .int .i64 (nmOf u0), S (ownOf u0), .int .i64 wh, .pointer (some ⟨b, 0, none⟩)] 163)).heap.size := by simp; omega
      generalize hw1 : wr.alloc (.cells #[.int .i64 (kindOf t0), .int .i64 t0.pl, .int .i64 (nmOf t0), S (ownOf t0), .int .i64 (kindOf u0), .int .i64 u0.pl, .int .i64 (nmOf u0), S (ownOf u0), .int .i64 wh, .pointer (some ⟨b, 0, none⟩)] 163) = w1 at *
      have HW1 : Hid _ := hw1
      have HE : Hid _ := hE
      have HOW : Hid (w1.ownsRow w.heap.size 163 10 (.slice va zs.length vcap) zs.length (iCells zs)) := HNG.out.row
      clear hct hcells hX hbw hIt hbk hbk' hb1 hz1' hwh HX hgl hbl hw1 hE
      by_cases h11 : x.kind = 11
      · have i11 : ((kindOf t0 : Int) == 11) = true := by rw [hkd, h11]; rfl
        have HJ : Hid ((kindOf t0 : Int) = 11) := by show _ = _; rw [hkd, h11]; rfl
        have HIC : Hid (([.int .i64 11, .int .i64 t0.pl, .int .i64 (nmOf t0), S (ownOf t0), .int .i64 (kindOf u0), .int .i64 u0.pl, .int .i64 (nmOf u0), S (ownOf u0), .int .i64 wh, .pointer (some ⟨b, 0, none⟩)] : List Value) = icell (t0, u0, b, wh)) := by
          show ([.int .i64 11, .int .i64 t0.pl, .int .i64 (nmOf t0), S (ownOf t0), .int .i64 (kindOf u0), .int .i64 u0.pl, .int .i64 (nmOf u0), S (ownOf u0), .int .i64 wh, .pointer (some ⟨b, 0, none⟩)] : List Value) = [.int .i64 (kindOf t0), .int .i64 t0.pl, .int .i64 (nmOf t0), S (ownOf t0), .int .i64 (kindOf u0), .int .i64 u0.pl, .int .i64 (nmOf u0), S (ownOf u0), .int .i64 wh, .pointer (some ⟨b, 0, none⟩)]
          rw [hkd, h11]; rfl
        have hr : reaT (x :: List.drop (k + 1) xs) = x :: reaT (List.drop (k + 1) xs) := by rw [reaT, if_neg (fun e => e.1 h11), if_neg (fun e => e.1 h11)]
        rw [hr] at HE
        clear hr h11 hkd
        go_upto_region 5 with fail
        rw [HW1.out]
        have j11 := HJ.out
        go_wp2_with (at_builtin; go_must (refine wpList_append_lies _ (by rfl) _ _ 84 (by rfl) w.heap.size 163 i0 (.agg #[.int .i64 0, .int .i64 0, .int .i64 0, .string ⟨#[]⟩, .int .i64 0, .int .i64 0, .int .i64 0, .string ⟨#[]⟩, .int .i64 0, .pointer none]) 10 96 Tryz.underlying84 hi hz0 hz1 hz2 (by rfl) (by decide) _ _ _ (by rfl) (HOW.out.alloc _) ⟨w1.heap.size, 0, none⟩ 1 1 [.int .i64 11, .int .i64 t0.pl, .int .i64 (nmOf t0), S (ownOf t0), .int .i64 (kindOf u0), .int .i64 u0.pl, .int .i64 (nmOf u0), S (ownOf u0), .int .i64 wh, .pointer (some ⟨b, 0, none⟩)] (by rfl) (by rfl) (World.news_of_block (heap_alloc_new w1 _)) (fun x hx => by simp at hx; rcases hx with rfl | rfl | rfl | rfl | rfl | rfl | rfl | rfl | rfl | rfl <;> rfl) (by decide) (by unfold maxLen; omega) (by omega) (by simp; omega) _ rfl ?_); intro gg cap2 w5 hown3 hgrow hat hlt3; have HN : Hid (KpI F d w w5 (.slice (some ⟨gg, 0, none⟩) (zs.length + 1) cap2) (ks ++ [x]) (zs ++ [(t0, u0, b, wh)])) := HCX.out.next HB1.out HIT.out (by rw [← HIC.out]; exact hown3) hgrow; have y9 := (append_keeps hgrow (j := 9) hil hin).trans z9; have yk := (append_keeps hgrow (j := 0) hbl1 hbn).trans hbk2; clear hown3 hgrow hat hlt3)
        go_roundw
        case rel => exact ⟨k + 1, _, _, by omega, by go_num, by simp; omega, HN.out, by rw [← HE.out]; simp⟩
        case measure => simp [intOf]; omega
      · have i11 : ((kindOf t0 : Int) == 11) = false := by rw [hkd]; simp; omega
        have j11 : ¬ (kindOf t0 : Int) = 11 := by rw [hkd]; omega
        by_cases h21 : x.c.k = 21
        · have i21 : ((x.c.k : Int) == 21) = true := by rw [h21]; rfl
          have hr : reaT (x :: List.drop (k + 1) xs) = reaT (List.drop (k + 1) xs) := by rw [reaT, if_pos ⟨h11, h21⟩]
          rw [hr] at HE
          clear hr h11 hkd h21
          go_upto_region 5 with fail
          rw [HW1.out]
          go_wp2_with fail
          go_roundw
          case rel => exact ⟨k + 1, _, _, by omega, by go_num, by omega, HNG.out, HE.out⟩
          case measure => simp [intOf]; omega
        · have i21 : ((x.c.k : Int) == 21) = false := by simp; omega
          by_cases h20 : x.c.k = 20
          · have i20 : ((x.c.k : Int) == 20) = true := by rw [h20]; rfl
            have hr : reaT (x :: List.drop (k + 1) xs) = [x] := by rw [reaT, if_neg (fun e => h21 e.2), if_pos ⟨h11, h20⟩]
            rw [hr] at HE
            clear hr h11 hkd h21 h20
            go_upto_region 5 with fail
            rw [HW1.out]
            have HIC : Hid (([.int .i64 (kindOf t0), .int .i64 t0.pl, .int .i64 (nmOf t0), S (ownOf t0), .int .i64 (kindOf u0), .int .i64 u0.pl, .int .i64 (nmOf u0), S (ownOf u0), .int .i64 wh, .pointer (some ⟨b, 0, none⟩)] : List Value) = icell (t0, u0, b, wh)) := rfl
            go_wp2_with (at_builtin; go_must (refine wpList_append_lies _ (by rfl) _ _ 84 (by rfl) w.heap.size 163 i0 (.agg #[.int .i64 0, .int .i64 0, .int .i64 0, .string ⟨#[]⟩, .int .i64 0, .int .i64 0, .int .i64 0, .string ⟨#[]⟩, .int .i64 0, .pointer none]) 10 96 Tryz.underlying84 hi hz0 hz1 hz2 (by rfl) (by decide) _ _ _ (by rfl) (HOW.out.alloc _) ⟨w1.heap.size, 0, none⟩ 1 1 [.int .i64 (kindOf t0), .int .i64 t0.pl, .int .i64 (nmOf t0), S (ownOf t0), .int .i64 (kindOf u0), .int .i64 u0.pl, .int .i64 (nmOf u0), S (ownOf u0), .int .i64 wh, .pointer (some ⟨b, 0, none⟩)] (by rfl) (by rfl) (World.news_of_block (heap_alloc_new w1 _)) (fun x hx => by simp at hx; rcases hx with rfl | rfl | rfl | rfl | rfl | rfl | rfl | rfl | rfl | rfl <;> rfl) (by decide) (by unfold maxLen; omega) (by omega) (by simp; omega) _ rfl ?_); intro gg cap2 w5 hown3 hgrow hat hlt3; have HN : Hid (KpI F d w w5 (.slice (some ⟨gg, 0, none⟩) (zs.length + 1) cap2) (ks ++ [x]) (zs ++ [(t0, u0, b, wh)])) := HCX.out.next HB1.out HIT.out (by rw [← HIC.out]; exact hown3) hgrow; have y9 := (append_keeps hgrow (j := 9) hil hin).trans z9; have yk := (append_keeps hgrow (j := 0) hbl1 hbn).trans hbk2; clear hown3 hgrow hat hlt3)
            go_ret
            exact ⟨_, _, rfl, by rw [← HE.out]; exact HN.out, by simp; omega⟩
          · have i20 : ((x.c.k : Int) == 20) = false := by simp; omega
            have hr : reaT (x :: List.drop (k + 1) xs) = x :: reaT (List.drop (k + 1) xs) := by rw [reaT, if_neg (fun e => h21 e.2), if_neg (fun e => h20 e.2)]
            rw [hr] at HE
            clear hr h11 hkd h21 h20
            go_upto_region 5 with fail
            rw [HW1.out]
            have HIC : Hid (([.int .i64 (kindOf t0), .int .i64 t0.pl, .int .i64 (nmOf t0), S (ownOf t0), .int .i64 (kindOf u0), .int .i64 u0.pl, .int .i64 (nmOf u0), S (ownOf u0), .int .i64 wh, .pointer (some ⟨b, 0, none⟩)] : List Value) = icell (t0, u0, b, wh)) := rfl
            go_wp2_with (at_builtin; go_must (refine wpList_append_lies _ (by rfl) _ _ 84 (by rfl) w.heap.size 163 i0 (.agg #[.int .i64 0, .int .i64 0, .int .i64 0, .string ⟨#[]⟩, .int .i64 0, .int .i64 0, .int .i64 0, .string ⟨#[]⟩, .int .i64 0, .pointer none]) 10 96 Tryz.underlying84 hi hz0 hz1 hz2 (by rfl) (by decide) _ _ _ (by rfl) (HOW.out.alloc _) ⟨w1.heap.size, 0, none⟩ 1 1 [.int .i64 (kindOf t0), .int .i64 t0.pl, .int .i64 (nmOf t0), S (ownOf t0), .int .i64 (kindOf u0), .int .i64 u0.pl, .int .i64 (nmOf u0), S (ownOf u0), .int .i64 wh, .pointer (some ⟨b, 0, none⟩)] (by rfl) (by rfl) (World.news_of_block (heap_alloc_new w1 _)) (fun x hx => by simp at hx; rcases hx with rfl | rfl | rfl | rfl | rfl | rfl | rfl | rfl | rfl | rfl <;> rfl) (by decide) (by unfold maxLen; omega) (by omega) (by simp; omega) _ rfl ?_); intro gg cap2 w5 hown3 hgrow hat hlt3; have HN : Hid (KpI F d w w5 (.slice (some ⟨gg, 0, none⟩) (zs.length + 1) cap2) (ks ++ [x]) (zs ++ [(t0, u0, b, wh)])) := HCX.out.next HB1.out HIT.out (by rw [← HIC.out]; exact hown3) hgrow; have y9 := (append_keeps hgrow (j := 9) hil hin).trans z9; have yk := (append_keeps hgrow (j := 0) hbl1 hbn).trans hbk2; clear hown3 hgrow hat hlt3)
            go_roundw
            case rel => exact ⟨k + 1, _, _, by omega, by go_num, by simp; omega, HN.out, by rw [← HE.out]; simp⟩
            case measure => simp [intOf]; omega
    · obtain rfl : k = ys.length := by omega
      have HR : Hid (KpI F d w wr u3 (reaT xs) zs) := by
        have := HX.out
        rw [List.drop_of_length_le (by rw [HI.out.1]; exact Nat.le_refl _)] at this
        simp only [reaT, List.append_nil] at this
        rw [← this.2]; exact this.1
      clear HX
      go_wp2_with fail
      go_ret
      exact ⟨_, zs, rfl, HR.out, hzk⟩
end Go.Proofs.YtfkdailfcmnjlaaGreatDoor
