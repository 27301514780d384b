/-
  What is written of raw numbers is a policy that says what was meant.
-/
import Derived.Test.YtfkdailfcmnjlaaGreatDoorPlain01
import Derived.Test.YtfkdailfcmnjlaaGreatDoorPlain02
import Derived.Test.YtfkdailfcmnjlaaGreatDoorPlain03
import Derived.Test.YtfkdailfcmnjlaaGreatDoorPlain04
import Derived.Test.YtfkdailfcmnjlaaGreatDoorPlain05
import Derived.Test.YtfkdailfcmnjlaaGreatDoorPlain06
import Derived.Test.YtfkdailfcmnjlaaGreatDoorPlain07
import Derived.Test.YtfkdailfcmnjlaaGreatDoorPlain08
import Derived.Test.YtfkdailfcmnjlaaGreatDoorPlain09
import Derived.Test.YtfkdailfcmnjlaaGreatDoorPlain10
import Derived.Test.YtfkdailfcmnjlaaGreatDoorPlain11
import Derived.Test.YtfkdailfcmnjlaaGreatDoorPlain12
import Derived.Test.YtfkdailfcmnjlaaGreatDoorPlain13
import Derived.Test.YtfkdailfcmnjlaaGreatDoorPlain14
import Derived.Test.YtfkdailfcmnjlaaGreatDoorPlain15
import Derived.Test.YtfkdailfcmnjlaaGreatDoorPlain16
import Derived.Test.YtfkdailfcmnjlaaGreatDoorPlain17
import Derived.Test.YtfkdailfcmnjlaaGreatDoorPlain18
import Derived.Test.YtfkdailfcmnjlaaGreatDoorPlain19
import Derived.Test.YtfkdailfcmnjlaaGreatDoorPlain20
import Derived.Test.YtfkdailfcmnjlaaGreatDoorPlain21
import Derived.Test.YtfkdailfcmnjlaaGreatDoorPlain22
import Derived.Test.YtfkdailfcmnjlaaGreatDoorPlain23
import Derived.Test.YtfkdailfcmnjlaaGreatDoorPlain24
import Derived.Test.YtfkdailfcmnjlaaGreatDoorPlain25
import Derived.Test.YtfkdailfcmnjlaaGreatDoorPlain26
import Derived.Test.YtfkdailfcmnjlaaGreatDoorPlain27
import Derived.Test.YtfkdailfcmnjlaaGreatDoorPlain28
import Derived.Test.YtfkdailfcmnjlaaGreatDoorPlain29
import Derived.Test.YtfkdailfcmnjlaaGreatDoorPlain30
import Derived.Test.YtfkdailfcmnjlaaGreatDoorPlain31
import Derived.Test.YtfkdailfcmnjlaaGreatDoorPlain32
import Derived.Test.YtfkdailfcmnjlaaGreatDoorLays
import Derived.Test.YtfkdailfcmnjlaaGreatDoorLays2
import Derived.WalkKit
import Derived.Deep.QuietTactic
import Derived.BigQuiet
import Derived.WalkSpells
import GoSem.Op.String
import Derived.Deep.AppendLies
import Derived.Deep.RegionHeld3
import Derived.Deep.DrawnRows
import Derived.Deep.RegionHeldLaw
import Derived.Deep.RegionLaw
import Derived.Lib.ParseIntBCases
import Derived.Deep.OwnRows
import Derived.Lib.LaidTab
import Derived.Lib.AppendIntMem
import Derived.Shelf.Strings.Builder1
import Derived.Laws.CopyOwn
import Derived.Deep.DeepCutAuto
import Derived.WalkSmall
import Derived.Lib.AppendZerosOnto
import Derived.Shelf.Abstract
import Derived.Deep.CutBlock
set_option linter.unusedVariables false
set_option linter.unusedSimpArgs false
namespace Go.Proofs.YtfkdailfcmnjlaaGreatDoor
open Go Go.RowKit
set_option maxRecDepth 100000
attribute [local go_sem ↓] Go.wp_at_zero Go.wp_at_succ loadAt_sc

theorem MR.truths {b : Nat} {w : World} {p : Nat} {v : Nat → Value} {l : Nat → List Mk} (h : TI b w p v l) : Truths w p (l 2) := fun i hi => by
  have hr := h.row 2 (by decide)
  have hp : 0 < (l 2).length := by omega
  obtain ⟨g, cap, hv, _, _⟩ := World.ownsRow.form hr hp
  have hr' : MR b w (.slice (some ⟨g, 0, none⟩) (l 2).length cap) (l 2) := by rw [← hv]; exact hr
  obtain ⟨c0, c1, c2, c3⟩ := MR.cells hr' hi
  exact ⟨g, cap, by rw [← hv]; exact h.cell.2.2.1, c0, c1, c2, c3⟩
set_option maxHeartbeats 8000000 in
set_option maxRecDepth 1000000 in
theorem written_any {c : Scn} (hc : ScnIn c) {rv : Value} {zs : List Int} {w : World} (hz : IntsAt rv zs w) (hin : ∀ z ∈ zs, In64 z) :
    Calls Tryz.prog 16 #[.agg (scC c), rv] w (WrittenOut c w) := by
  obtain ⟨hzl, a, cap, rfl, hza⟩ := hz
  obtain ⟨w0, hw0⟩ : ∃ w0, ((w.alloc (.cells (scC c) 37)).alloc (.cells #[.string ⟨#[]⟩, .string ⟨#[]⟩, .bool false, .int .i64 0, .int .i64 0] 42)).alloc (.cells #[.slice none 0 0, .slice none 0 0, .slice none 0 0] 100) = w0 := ⟨_, rfl⟩
  have hs0 : w0.heap.size = w.heap.size + 3 := by rw [← hw0]; simp
  have hc0 : w0.heap[w.heap.size]? = some (.cells (scC c) 37 (0, 0)) := by
    rw [← hw0]
    exact (Below.heap_alloc _ _ _ (by simp; omega)).trans ((Below.heap_alloc _ _ _ (by simp)).trans (heap_alloc_new w _))
  have hr0 : WrAt w0 (w.heap.size + 1) [] [] false 0 := by
    rw [← hw0]
    have h := heap_alloc_new (w.alloc (.cells (scC c) 37)) (.cells #[.string ⟨#[]⟩, .string ⟨#[]⟩, .bool false, .int .i64 0, .int .i64 0] 42)
    rw [World.size_alloc] at h
    exact (Below.heap_alloc _ _ _ (by simp)).trans h
  have ht0 : w0.heap[w.heap.size + 1 + 1]? = some (.cells #[.slice none 0 0, .slice none 0 0, .slice none 0 0] 100 (0, 0)) := by
    rw [← hw0]
    have h := heap_alloc_new ((w.alloc (.cells (scC c) 37)).alloc (.cells #[.string ⟨#[]⟩, .string ⟨#[]⟩, .bool false, .int .i64 0, .int .i64 0] 42)) (.cells #[.slice none 0 0, .slice none 0 0, .slice none 0 0] 100)
    rw [World.size_alloc, World.size_alloc] at h
    exact h
  have hB0 : Below w.heap.size w w0 := by
    rw [← hw0]
    exact (((Below.refl _ w).alloc (Nat.le_refl _) _).alloc (by simp) _).alloc (by simp; omega) _
  have hI0 : LoopI c (w.heap.size + 1 + 1) (w.heap.size + 1 + 1) w0 w0 0 := ⟨fun _ => .slice none 0 0, fun _ => [], ⟨ht0, fun j hj => World.ownsRow_nil _ _ _ _, fun i j _ _ _ g hg => by simp [Value.ownBlock] at hg, Nat.le_refl _⟩, fun j hj m hm => by simp at hm, fun j hj => by simp, Below.refl _ _⟩
  have hza0 : ∀ i, i < zs.length → ∃ rb ro, a = some ⟨rb, ro, none⟩ ∧ rb < w.heap.size + 1 + 1 ∧ w0.cell? ⟨rb, ro + i, none⟩ = some (.int .i64 (zs.getD i 0)) := fun i hi => by
    obtain ⟨rb, ro, e, h⟩ := hza i hi
    have hlt : rb < w.heap.size := World.block_lt_of_cell? w _ h
    exact ⟨rb, ro, e, by omega, by rw [hB0.cell (p := ⟨rb, ro + i, none⟩) hlt]; exact h⟩
  have HW : Hid _ := hw0
  have HZA : Hid _ := hza0
  clear hw0 hza hza0
  unfold scC at HW ⊢
  go_enter Tryz.func16, Tryz.ntmps16
  go_upto_block 0 with fail
  rw [HW.out]
  refine wp_take (loop_1 hc (zs := zs) _ _ _ _ _ _ _ _ _ _ _ _ _ _ _ _ _ _ _ _ _ _ _ _ _ _ _ _ _ _ _ _ _ _ _ _ _ _ _ _ _ _ _ _ _ _ _ _ _ _ _ _ _ _ _ _ _ _ _ _ _ _ _ _ _ _ _ _ _ _ _ _ _ _ _ _ _ _ _ _ _ _ _ _ _ _ _ _ _ _ _ _ _ _ _ _ _ _ _ _ _ _ _ _ _ _ _ _ _ _ _ _ _ _ _ _ _ _ _ _ _ _ _ _ _ _ _ _ _ _ _ _ _ _ _ _ rfl hzl HZA.out hin hc0 (by omega) (by omega) hI0) ?_
  intro a1 w1 h1
  obtain ⟨u6, h1⟩ := h1
  obtain ⟨u7, h1⟩ := h1
  obtain ⟨u15, h1⟩ := h1
  obtain ⟨u16, h1⟩ := h1
  obtain ⟨u17, h1⟩ := h1
  obtain ⟨u18, h1⟩ := h1
  obtain ⟨u19, h1⟩ := h1
  obtain ⟨u20, h1⟩ := h1
  obtain ⟨u21, h1⟩ := h1
  obtain ⟨u22, h1⟩ := h1
  obtain ⟨u23, h1⟩ := h1
  obtain ⟨u24, h1⟩ := h1
  obtain ⟨u25, h1⟩ := h1
  obtain ⟨u26, h1⟩ := h1
  obtain ⟨u27, h1⟩ := h1
  obtain ⟨u28, h1⟩ := h1
  obtain ⟨u29, h1⟩ := h1
  obtain ⟨u30, h1⟩ := h1
  obtain ⟨u31, h1⟩ := h1
  obtain ⟨u32, h1⟩ := h1
  obtain ⟨u33, h1⟩ := h1
  obtain ⟨u34, h1⟩ := h1
  obtain ⟨u35, h1⟩ := h1
  obtain ⟨u36, h1⟩ := h1
  obtain ⟨u37, h1⟩ := h1
  obtain ⟨u38, h1⟩ := h1
  obtain ⟨u39, h1⟩ := h1
  obtain ⟨u40, h1⟩ := h1
  obtain ⟨u41, h1⟩ := h1
  obtain ⟨u42, h1⟩ := h1
  obtain ⟨u43, h1⟩ := h1
  obtain ⟨u44, h1⟩ := h1
  obtain ⟨u45, h1⟩ := h1
  obtain ⟨u46, h1⟩ := h1
  obtain ⟨u47, h1⟩ := h1
  obtain ⟨u48, h1⟩ := h1
  obtain ⟨u49, h1⟩ := h1
  obtain ⟨u50, h1⟩ := h1
  obtain ⟨u51, h1⟩ := h1
  obtain ⟨rfl, v, l, hT, hg, hl, hB1⟩ := h1
  simp only [Exit.then]
  obtain ⟨va, vc, hv2⟩ := row_sl (hT.row 2 (by decide))
  have t2 : w1.cell? ⟨w.heap.size + 1 + 1, 2, none⟩ = some (.slice va (l 2).length vc) := by rw [hT.cell.2.2.1, hv2]
  have hs1 : w.heap.size + 3 ≤ w1.heap.size := by have := hB1.size; omega
  have p1 : w.heap.size + 1 + 1 < w1.heap.size := by omega
  have p2 : w.heap.size + 1 + 1 ≠ w1.heap.size := by omega
  have p3 : w1.heap.size ≠ w.heap.size + 1 + 1 := by omega
  have hl2 := hl 2 (by decide)
  have HT : Hid (TI (w.heap.size + 1 + 1) w1 (w.heap.size + 1 + 1) v l) := hT
  have HG : Hid _ := hg
  have HR0 : Hid _ := hr0
  have HB1 : Hid _ := hB1
  have HB0 : Hid _ := hB0
  clear hT hg hr0 hc0 ht0 hI0 hB1 hB0 HZA HW hl hv2 hin
  go_upto_block 2 with fail
  go_name_world w2 hw2
  have hpb : WrAt w2 w1.heap.size [] [] false 0 := by rw [← hw2]; exact heap_alloc_new w1 _
  have hB2 : Below w1.heap.size w1 w2 := by rw [← hw2]; exact (Below.refl _ _).alloc (Nat.le_refl _) _
  clear hw2 t2
  refine wp_take (loop_2 (fl := scF c) (lt := l 2) _ _ _ _ _ _ _ _ _ _ _ _ _ _ _ _ _ _ _ _ _ _ _ _ _ _ _ _ _ _ _ _ _ _ _ _ _ _ _ _ _ _ _ _ _ _ _ _ _ _ _ _ _ _ _ _ _ _ _ _ _ _ _ _ _ _ _ _ _ _ _ _ _ _ _ _ _ _ _ _ _ _ _ _ _ _ _ _ _ _ _ _ _ _ _ _ _ _ _ _ _ _ _ _ _ _ _ _ _ _ _ _ _ _ _ _ _ _ _ _ _ _ _ _ _ _ _ _ _ _ _ _ _ _ _ _ rfl (by omega) (fun W h => MR.truths (HT.out.below (hB2.trans h))) (HG.out 2 (by decide)) hpb) ?_
  intro a2 w3 h3
  obtain ⟨u9, h3⟩ := h3
  obtain ⟨u10, h3⟩ := h3
  obtain ⟨u11, h3⟩ := h3
  obtain ⟨u12, h3⟩ := h3
  obtain ⟨u58, h3⟩ := h3
  obtain ⟨u59, h3⟩ := h3
  obtain ⟨u60, h3⟩ := h3
  obtain ⟨u61, h3⟩ := h3
  obtain ⟨u62, h3⟩ := h3
  obtain ⟨u63, h3⟩ := h3
  obtain ⟨u64, h3⟩ := h3
  obtain ⟨u65, h3⟩ := h3
  obtain ⟨u66, h3⟩ := h3
  obtain ⟨u67, h3⟩ := h3
  obtain ⟨u68, h3⟩ := h3
  obtain ⟨u69, h3⟩ := h3
  obtain ⟨u70, h3⟩ := h3
  obtain ⟨u71, h3⟩ := h3
  obtain ⟨u72, h3⟩ := h3
  obtain ⟨u73, h3⟩ := h3
  obtain ⟨u74, h3⟩ := h3
  obtain ⟨u75, h3⟩ := h3
  obtain ⟨u76, h3⟩ := h3
  obtain ⟨u77, h3⟩ := h3
  obtain ⟨u78, h3⟩ := h3
  obtain ⟨u79, h3⟩ := h3
  obtain ⟨u80, h3⟩ := h3
  obtain ⟨u81, h3⟩ := h3
  obtain ⟨u82, h3⟩ := h3
  obtain ⟨u83, h3⟩ := h3
  obtain ⟨u84, h3⟩ := h3
  obtain ⟨u85, h3⟩ := h3
  obtain ⟨u86, h3⟩ := h3
  obtain ⟨u87, h3⟩ := h3
  obtain ⟨u88, h3⟩ := h3
  obtain ⟨u89, h3⟩ := h3
  obtain ⟨u90, h3⟩ := h3
  obtain ⟨u91, h3⟩ := h3
  obtain ⟨u92, h3⟩ := h3
  obtain ⟨u93, h3⟩ := h3
  obtain ⟨u94, h3⟩ := h3
  obtain ⟨u95, h3⟩ := h3
  obtain ⟨u96, h3⟩ := h3
  obtain ⟨u97, h3⟩ := h3
  obtain ⟨u98, h3⟩ := h3
  obtain ⟨u99, h3⟩ := h3
  obtain ⟨u100, h3⟩ := h3
  obtain ⟨u101, h3⟩ := h3
  obtain ⟨u102, h3⟩ := h3
  obtain ⟨u103, h3⟩ := h3
  obtain ⟨u104, h3⟩ := h3
  obtain ⟨u105, h3⟩ := h3
  obtain ⟨u106, h3⟩ := h3
  obtain ⟨u107, h3⟩ := h3
  obtain ⟨u108, h3⟩ := h3
  obtain ⟨u109, h3⟩ := h3
  obtain ⟨u110, h3⟩ := h3
  obtain ⟨u111, h3⟩ := h3
  obtain ⟨u112, h3⟩ := h3
  obtain ⟨u113, h3⟩ := h3
  obtain ⟨u114, h3⟩ := h3
  obtain ⟨u115, h3⟩ := h3
  obtain ⟨u116, h3⟩ := h3
  obtain ⟨u117, h3⟩ := h3
  obtain ⟨u118, h3⟩ := h3
  obtain ⟨u119, h3⟩ := h3
  obtain ⟨u120, h3⟩ := h3
  obtain ⟨u121, h3⟩ := h3
  obtain ⟨u122, h3⟩ := h3
  obtain ⟨u123, h3⟩ := h3
  obtain ⟨u124, h3⟩ := h3
  obtain ⟨u125, h3⟩ := h3
  obtain ⟨u126, h3⟩ := h3
  obtain ⟨u127, h3⟩ := h3
  obtain ⟨u128, h3⟩ := h3
  obtain ⟨u129, h3⟩ := h3
  obtain ⟨u130, h3⟩ := h3
  obtain ⟨u131, h3⟩ := h3
  obtain ⟨u132, h3⟩ := h3
  obtain ⟨u133, h3⟩ := h3
  obtain ⟨u134, h3⟩ := h3
  obtain ⟨u135, h3⟩ := h3
  obtain ⟨u136, h3⟩ := h3
  obtain ⟨u137, h3⟩ := h3
  obtain ⟨u138, h3⟩ := h3
  obtain ⟨rfl, q, hq3, hgq, hpq, hB3⟩ := h3
  simp only [Exit.then]
  have hR : WrAt w3 (w.heap.size + 1) [] [] false 0 := (hB3.block _ (by omega)).trans ((hB2.block _ (by omega)).trans ((HB1.out.block _ (by omega)).trans HR0.out))
  have y0 : w3.cell? ⟨w1.heap.size, 0, none⟩ = some (S (textW q)) := cell_of_row w3 _ 0 _ _ _ hpq
  have y1 : w3.cell? ⟨w1.heap.size, 1, none⟩ = some (S (bareW q)) := cell_of_row w3 _ 1 _ _ _ hpq
  have y2 : w3.cell? ⟨w1.heap.size, 2, none⟩ = some (.bool (saysW q 0).1) := cell_of_row w3 _ 2 _ _ _ hpq
  have y3 : w3.cell? ⟨w1.heap.size, 3, none⟩ = some (.int .i64 ((saysW q 0).2 : Nat)) := cell_of_row w3 _ 3 _ _ _ hpq
  have y4 : w3.cell? ⟨w1.heap.size, 4, none⟩ = some (.int .i64 0) := cell_of_row w3 _ 4 _ _ _ hpq
  have x0 : w3.cell? ⟨w.heap.size + 1, 0, none⟩ = some (S []) := cell_of_row w3 _ 0 _ _ _ hR
  have x1 : w3.cell? ⟨w.heap.size + 1, 1, none⟩ = some (S []) := cell_of_row w3 _ 1 _ _ _ hR
  have x2 : w3.cell? ⟨w.heap.size + 1, 2, none⟩ = some (.bool false) := cell_of_row w3 _ 2 _ _ _ hR
  have x3 : w3.cell? ⟨w.heap.size + 1, 3, none⟩ = some (.int .i64 0) := cell_of_row w3 _ 3 _ _ _ hR
  have x4 : w3.cell? ⟨w.heap.size + 1, 4, none⟩ = some (.int .i64 0) := cell_of_row w3 _ 4 _ _ _ hR
  have f0 : ∀ j, w3.frozen? ⟨w.heap.size + 1, j, none⟩ = false := fun j => by unfold WrAt at hR; simp [World.frozen?, hR]
  have HOUT : Hid (∀ w', Below w.heap.size w w' → WrittenOut c w (.returned (.agg #[S (textW q), S (bareW q), .bool (saysW q 0).1, .int .i64 ((saysW q 0).2 : Nat), .int .i64 0])) w') := fun w' h => ⟨q, hgq, hq3, rfl, h⟩
  have hsz3 : w1.heap.size ≤ w3.heap.size := by have := hB2.size; have := hB3.size; omega
  have HB : Hid (Below w.heap.size w w3) := HB0.out.trans ((HB1.out.mono (by omega)).trans ((hB2.mono (by omega)).trans (hB3.mono (by omega))))
  clear hR hpq hgq hq3 hB3 hB2 hpb HR0 HB1 HB0
  generalize textW q = tq at *
  generalize bareW q = bq at *
  generalize (saysW q 0).1 = s1 at *
  generalize (saysW q 0).2 = s2 at *
  have n1 : w.heap.size + 1 ≠ w1.heap.size := by omega
  have n2 : w1.heap.size ≠ w.heap.size + 1 := by omega
  have g0 := f0 0
  have g1 := f0 1
  have g2 := f0 2
  have g3 := f0 3
  have g4 := f0 4
  clear f0
  go_wp2_with fail
  refine bodyPost_ret (v := .agg #[S tq, S bq, .bool s1, .int .i64 (s2 : Nat), .int .i64 0]) (by simp [results, Tryz.results16, go_sem, cell_set_same, cell_set_off, some_set, x0, x1, x2, x3, x4]) rfl ?_
  exact HOUT.out _ (((((HB.out.setCell (by simp) _).setCell (by simp) _).setCell (by simp) _).setCell (by simp) _).setCell (by simp) _)
end Go.Proofs.YtfkdailfcmnjlaaGreatDoor
