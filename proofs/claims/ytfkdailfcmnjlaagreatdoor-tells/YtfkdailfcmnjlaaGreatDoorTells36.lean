/-
  What is written of raw numbers is a policy that says what was meant. A policy says what its words say: what a verdict's block is. A policy says what its words say: the call in row 292. A policy says what its words say: the call in row 293. A policy says what its words say: the call in row 294. A policy says what its words say: the call in row 295. A policy says what its words say, from what 'written' answers.
-/
import Derived.Test.YtfkdailfcmnjlaaGreatDoorTells01
import Derived.Test.YtfkdailfcmnjlaaGreatDoorTells02
import Derived.Test.YtfkdailfcmnjlaaGreatDoorTells03
import Derived.Test.YtfkdailfcmnjlaaGreatDoorTells04
import Derived.Test.YtfkdailfcmnjlaaGreatDoorTells05
import Derived.Test.YtfkdailfcmnjlaaGreatDoorTells06
import Derived.Test.YtfkdailfcmnjlaaGreatDoorTells07
import Derived.Test.YtfkdailfcmnjlaaGreatDoorTells08
import Derived.Test.YtfkdailfcmnjlaaGreatDoorTells09
import Derived.Test.YtfkdailfcmnjlaaGreatDoorTells10
import Derived.Test.YtfkdailfcmnjlaaGreatDoorTells11
import Derived.Test.YtfkdailfcmnjlaaGreatDoorTells12
import Derived.Test.YtfkdailfcmnjlaaGreatDoorTells13
import Derived.Test.YtfkdailfcmnjlaaGreatDoorTells14
import Derived.Test.YtfkdailfcmnjlaaGreatDoorTells15
import Derived.Test.YtfkdailfcmnjlaaGreatDoorTells16
import Derived.Test.YtfkdailfcmnjlaaGreatDoorTells17
import Derived.Test.YtfkdailfcmnjlaaGreatDoorTells18
import Derived.Test.YtfkdailfcmnjlaaGreatDoorTells19
import Derived.Test.YtfkdailfcmnjlaaGreatDoorTells20
import Derived.Test.YtfkdailfcmnjlaaGreatDoorTells21
import Derived.Test.YtfkdailfcmnjlaaGreatDoorTells22
import Derived.Test.YtfkdailfcmnjlaaGreatDoorTells23
import Derived.Test.YtfkdailfcmnjlaaGreatDoorTells24
import Derived.Test.YtfkdailfcmnjlaaGreatDoorTells25
import Derived.Test.YtfkdailfcmnjlaaGreatDoorTells26
import Derived.Test.YtfkdailfcmnjlaaGreatDoorTells27
import Derived.Test.YtfkdailfcmnjlaaGreatDoorTells28
import Derived.Test.YtfkdailfcmnjlaaGreatDoorTells29
import Derived.Test.YtfkdailfcmnjlaaGreatDoorTells30
import Derived.Test.YtfkdailfcmnjlaaGreatDoorTells31
import Derived.Test.YtfkdailfcmnjlaaGreatDoorTells32
import Derived.Test.YtfkdailfcmnjlaaGreatDoorTells33
import Derived.Test.YtfkdailfcmnjlaaGreatDoorTells34
import Derived.Test.YtfkdailfcmnjlaaGreatDoorTells35
import Derived.Test.YtfkdailfcmnjlaaGreatDoorLays
import Derived.Test.YtfkdailfcmnjlaaGreatDoorLays2
import Derived.WalkKit
import Derived.Deep.QuietTactic
import Derived.BigQuiet
import Derived.WalkSpells
import GoSem.Op.String
import Derived.Deep.AppendLies
import Derived.Deep.RegionHeld3
import Derived.Deep.DrawnRows
import Derived.Deep.RegionHeldLaw
import Derived.Deep.RegionLaw
import Derived.Lib.ParseIntBCases
import Derived.Deep.OwnRows
import Derived.Lib.LaidTab
import Derived.Lib.AppendIntMem
import Derived.Shelf.Strings.Builder1
import Derived.Laws.CopyOwn
import Derived.Deep.DeepCutAuto
import Derived.WalkSmall
import Derived.Lib.AppendZerosOnto
import Derived.Shelf.Abstract
import Derived.Deep.CutBlock
set_option linter.unusedVariables false
set_option linter.unusedSimpArgs false
namespace Go.Proofs.YtfkdailfcmnjlaaGreatDoor
open Go Go.RowKit
set_option maxRecDepth 100000
attribute [local go_sem ↓] Go.wp_at_zero Go.wp_at_succ loadAt_sc

theorem MR.truths {b : Nat} {w : World} {p : Nat} {v : Nat → Value} {l : Nat → List Mk} (h : TI b w p v l) : Truths w p (l 2) := fun i hi => by
  have hr := h.row 2 (by decide)
  have hp : 0 < (l 2).length := by omega
  obtain ⟨g, cap, hv, _, _⟩ := World.ownsRow.form hr hp
  have hr' : MR b w (.slice (some ⟨g, 0, none⟩) (l 2).length cap) (l 2) := by rw [← hv]; exact hr
  obtain ⟨c0, c1, c2, c3⟩ := MR.cells hr' hi
  exact ⟨g, cap, by rw [← hv]; exact h.cell.2.2.1, c0, c1, c2, c3⟩
set_option maxHeartbeats 8000000 in
set_option maxRecDepth 1000000 in
theorem written_any {c : Scn} (hc : ScnIn c) {rv : Value} {zs : List Int} {w : World} (hz : IntsAt rv zs w) (hin : ∀ z ∈ zs, In64 z) :
    Calls Tryz.prog 16 #[.agg (scC c), rv] w (WrittenOut c w) := by
  obtain ⟨hzl, a, cap, rfl, hza⟩ := hz
  obtain ⟨w0, hw0⟩ : ∃ w0, ((w.alloc (.cells (scC c) 37)).alloc (.cells #[.string ⟨#[]⟩, .string ⟨#[]⟩, .bool false, .int .i64 0, .int .i64 0] 42)).alloc (.cells #[.slice none 0 0, .slice none 0 0, .slice none 0 0] 100) = w0 := ⟨_, rfl⟩
  have hs0 : w0.heap.size = w.heap.size + 3 := by rw [← hw0]; simp
  have hc0 : w0.heap[w.heap.size]? = some (.cells (scC c) 37 (0, 0)) := by
    rw [← hw0]
    exact (Below.heap_alloc _ _ _ (by simp; omega)).trans ((Below.heap_alloc _ _ _ (by simp)).trans (heap_alloc_new w _))
  have hr0 : WrAt w0 (w.heap.size + 1) [] [] false 0 := by
    rw [← hw0]
    have h := heap_alloc_new (w.alloc (.cells (scC c) 37)) (.cells #[.string ⟨#[]⟩, .string ⟨#[]⟩, .bool false, .int .i64 0, .int .i64 0] 42)
    rw [World.size_alloc] at h
    exact (Below.heap_alloc _ _ _ (by simp)).trans h
  have ht0 : w0.heap[w.heap.size + 1 + 1]? = some (.cells #[.slice none 0 0, .slice none 0 0, .slice none 0 0] 100 (0, 0)) := by
    rw [← hw0]
    have h := heap_alloc_new ((w.alloc (.cells (scC c) 37)).alloc (.cells #[.string ⟨#[]⟩, .string ⟨#[]⟩, .bool false, .int .i64 0, .int .i64 0] 42)) (.cells #[.slice none 0 0, .slice none 0 0, .slice none 0 0] 100)
    rw [World.size_alloc, World.size_alloc] at h
    exact h
  have hB0 : Below w.heap.size w w0 := by
    rw [← hw0]
    exact (((Below.refl _ w).alloc (Nat.le_refl _) _).alloc (by simp) _).alloc (by simp; omega) _
  have hI0 : LoopI c (w.heap.size + 1 + 1) (w.heap.size + 1 + 1) w0 w0 0 := ⟨fun _ => .slice none 0 0, fun _ => [], ⟨ht0, fun j hj => World.ownsRow_nil _ _ _ _, fun i j _ _ _ g hg => by simp [Value.ownBlock] at hg, Nat.le_refl _⟩, fun j hj m hm => by simp at hm, fun j hj => by simp, Below.refl _ _⟩
  have hza0 : ∀ i, i < zs.length → ∃ rb ro, a = some ⟨rb, ro, none⟩ ∧ rb < w.heap.size + 1 + 1 ∧ w0.cell? ⟨rb, ro + i, none⟩ = some (.int .i64 (zs.getD i 0)) := fun i hi => by
    obtain ⟨rb, ro, e, h⟩ := hza i hi
    have hlt : rb < w.heap.size := World.block_lt_of_cell? w _ h
    exact ⟨rb, ro, e, by omega, by rw [hB0.cell (p := ⟨rb, ro + i, none⟩) hlt]; exact h⟩
  have HW : Hid _ := hw0
  have HZA : Hid _ := hza0
  clear hw0 hza hza0
  unfold scC at HW ⊢
  go_enter Tryz.func16, Tryz.ntmps16
  go_upto_block 0 with fail
  rw [HW.out]
  refine wp_take (loop_1 hc (zs := zs) _ _ _ _ _ _ _ _ _ _ _ _ _ _ _ _ _ _ _ _ _ _ _ _ _ _ _ _ _ _ _ _ _ _ _ _ _ _ _ _ _ _ _ _ _ _ _ _ _ _ _ _ _ _ _ _ _ _ _ _ _ _ _ _ _ _ _ _ _ _ _ _ _ _ _ _ _ _ _ _ _ _ _ _ _ _ _ _ _ _ _ _ _ _ _ _ _ _ _ _ _ _ _ _ _ _ _ _ _ _ _ _ _ _ _ _ _ _ _ _ _ _ _ _ _ _ _ _ _ _ _ _ _ _ _ _ rfl hzl HZA.out hin hc0 (by omega) (by omega) hI0) ?_
  intro a1 w1 h1
  obtain ⟨u6, h1⟩ := h1
  obtain ⟨u7, h1⟩ := h1
  obtain ⟨u15, h1⟩ := h1
  obtain ⟨u16, h1⟩ := h1
  obtain ⟨u17, h1⟩ := h1
  obtain ⟨u18, h1⟩ := h1
  obtain ⟨u19, h1⟩ := h1
  obtain ⟨u20, h1⟩ := h1
  obtain ⟨u21, h1⟩ := h1
  obtain ⟨u22, h1⟩ := h1
  obtain ⟨u23, h1⟩ := h1
  obtain ⟨u24, h1⟩ := h1
  obtain ⟨u25, h1⟩ := h1
  obtain ⟨u26, h1⟩ := h1
  obtain ⟨u27, h1⟩ := h1
  obtain ⟨u28, h1⟩ := h1
  obtain ⟨u29, h1⟩ := h1
  obtain ⟨u30, h1⟩ := h1
  obtain ⟨u31, h1⟩ := h1
  obtain ⟨u32, h1⟩ := h1
  obtain ⟨u33, h1⟩ := h1
  obtain ⟨u34, h1⟩ := h1
  obtain ⟨u35, h1⟩ := h1
  obtain ⟨u36, h1⟩ := h1
  obtain ⟨u37, h1⟩ := h1
  obtain ⟨u38, h1⟩ := h1
  obtain ⟨u39, h1⟩ := h1
  obtain ⟨u40, h1⟩ := h1
  obtain ⟨u41, h1⟩ := h1
  obtain ⟨u42, h1⟩ := h1
  obtain ⟨u43, h1⟩ := h1
  obtain ⟨u44, h1⟩ := h1
  obtain ⟨u45, h1⟩ := h1
  obtain ⟨u46, h1⟩ := h1
  obtain ⟨u47, h1⟩ := h1
  obtain ⟨u48, h1⟩ := h1
  obtain ⟨u49, h1⟩ := h1
  obtain ⟨u50, h1⟩ := h1
  obtain ⟨u51, h1⟩ := h1
  obtain ⟨rfl, v, l, hT, hg, hl, hB1⟩ := h1
  simp only [Exit.then]
  obtain ⟨va, vc, hv2⟩ := row_sl (hT.row 2 (by decide))
  have t2 : w1.cell? ⟨w.heap.size + 1 + 1, 2, none⟩ = some (.slice va (l 2).length vc) := by rw [hT.cell.2.2.1, hv2]
  have hs1 : w.heap.size + 3 ≤ w1.heap.size := by have := hB1.size; omega
  have p1 : w.heap.size + 1 + 1 < w1.heap.size := by omega
  have p2 : w.heap.size + 1 + 1 ≠ w1.heap.size := by omega
  have p3 : w1.heap.size ≠ w.heap.size + 1 + 1 := by omega
  have hl2 := hl 2 (by decide)
  have HT : Hid (TI (w.heap.size + 1 + 1) w1 (w.heap.size + 1 + 1) v l) := hT
  have HG : Hid _ := hg
  have HR0 : Hid _ := hr0
  have HB1 : Hid _ := hB1
  have HB0 : Hid _ := hB0
  clear hT hg hr0 hc0 ht0 hI0 hB1 hB0 HZA HW hl hv2 hin
  go_upto_block 2 with fail
  go_name_world w2 hw2
  have hpb : WrAt w2 w1.heap.size [] [] false 0 := by rw [← hw2]; exact heap_alloc_new w1 _
  have hB2 : Below w1.heap.size w1 w2 := by rw [← hw2]; exact (Below.refl _ _).alloc (Nat.le_refl _) _
  clear hw2 t2
  refine wp_take (loop_2 (fl := scF c) (lt := l 2) _ _ _ _ _ _ _ _ _ _ _ _ _ _ _ _ _ _ _ _ _ _ _ _ _ _ _ _ _ _ _ _ _ _ _ _ _ _ _ _ _ _ _ _ _ _ _ _ _ _ _ _ _ _ _ _ _ _ _ _ _ _ _ _ _ _ _ _ _ _ _ _ _ _ _ _ _ _ _ _ _ _ _ _ _ _ _ _ _ _ _ _ _ _ _ _ _ _ _ _ _ _ _ _ _ _ _ _ _ _ _ _ _ _ _ _ _ _ _ _ _ _ _ _ _ _ _ _ _ _ _ _ _ _ _ _ rfl (by omega) (fun W h => MR.truths (HT.out.below (hB2.trans h))) (HG.out 2 (by decide)) hpb) ?_
  intro a2 w3 h3
  obtain ⟨u9, h3⟩ := h3
  obtain ⟨u10, h3⟩ := h3
  obtain ⟨u11, h3⟩ := h3
  obtain ⟨u12, h3⟩ := h3
  obtain ⟨u58, h3⟩ := h3
  obtain ⟨u59, h3⟩ := h3
  obtain ⟨u60, h3⟩ := h3
  obtain ⟨u61, h3⟩ := h3
  obtain ⟨u62, h3⟩ := h3
  obtain ⟨u63, h3⟩ := h3
  obtain ⟨u64, h3⟩ := h3
  obtain ⟨u65, h3⟩ := h3
  obtain ⟨u66, h3⟩ := h3
  obtain ⟨u67, h3⟩ := h3
  obtain ⟨u68, h3⟩ := h3
  obtain ⟨u69, h3⟩ := h3
  obtain ⟨u70, h3⟩ := h3
  obtain ⟨u71, h3⟩ := h3
  obtain ⟨u72, h3⟩ := h3
  obtain ⟨u73, h3⟩ := h3
  obtain ⟨u74, h3⟩ := h3
  obtain ⟨u75, h3⟩ := h3
  obtain ⟨u76, h3⟩ := h3
  obtain ⟨u77, h3⟩ := h3
  obtain ⟨u78, h3⟩ := h3
  obtain ⟨u79, h3⟩ := h3
  obtain ⟨u80, h3⟩ := h3
  obtain ⟨u81, h3⟩ := h3
  obtain ⟨u82, h3⟩ := h3
  obtain ⟨u83, h3⟩ := h3
  obtain ⟨u84, h3⟩ := h3
  obtain ⟨u85, h3⟩ := h3
  obtain ⟨u86, h3⟩ := h3
  obtain ⟨u87, h3⟩ := h3
  obtain ⟨u88, h3⟩ := h3
  obtain ⟨u89, h3⟩ := h3
  obtain ⟨u90, h3⟩ := h3
  obtain ⟨u91, h3⟩ := h3
  obtain ⟨u92, h3⟩ := h3
  obtain ⟨u93, h3⟩ := h3
  obtain ⟨u94, h3⟩ := h3
  obtain ⟨u95, h3⟩ := h3
  obtain ⟨u96, h3⟩ := h3
  obtain ⟨u97, h3⟩ := h3
  obtain ⟨u98, h3⟩ := h3
  obtain ⟨u99, h3⟩ := h3
  obtain ⟨u100, h3⟩ := h3
  obtain ⟨u101, h3⟩ := h3
  obtain ⟨u102, h3⟩ := h3
  obtain ⟨u103, h3⟩ := h3
  obtain ⟨u104, h3⟩ := h3
  obtain ⟨u105, h3⟩ := h3
  obtain ⟨u106, h3⟩ := h3
  obtain ⟨u107, h3⟩ := h3
  obtain ⟨u108, h3⟩ := h3
  obtain ⟨u109, h3⟩ := h3
  obtain ⟨u110, h3⟩ := h3
  obtain ⟨u111, h3⟩ := h3
  obtain ⟨u112, h3⟩ := h3
  obtain ⟨u113, h3⟩ := h3
  obtain ⟨u114, h3⟩ := h3
  obtain ⟨u115, h3⟩ := h3
  obtain ⟨u116, h3⟩ := h3
  obtain ⟨u117, h3⟩ := h3
  obtain ⟨u118, h3⟩ := h3
  obtain ⟨u119, h3⟩ := h3
  obtain ⟨u120, h3⟩ := h3
  obtain ⟨u121, h3⟩ := h3
  obtain ⟨u122, h3⟩ := h3
  obtain ⟨u123, h3⟩ := h3
  obtain ⟨u124, h3⟩ := h3
  obtain ⟨u125, h3⟩ := h3
  obtain ⟨u126, h3⟩ := h3
  obtain ⟨u127, h3⟩ := h3
  obtain ⟨u128, h3⟩ := h3
  obtain ⟨u129, h3⟩ := h3
  obtain ⟨u130, h3⟩ := h3
  obtain ⟨u131, h3⟩ := h3
  obtain ⟨u132, h3⟩ := h3
  obtain ⟨u133, h3⟩ := h3
  obtain ⟨u134, h3⟩ := h3
  obtain ⟨u135, h3⟩ := h3
  obtain ⟨u136, h3⟩ := h3
  obtain ⟨u137, h3⟩ := h3
  obtain ⟨u138, h3⟩ := h3
  obtain ⟨rfl, q, hq3, hgq, hpq, hB3⟩ := h3
  simp only [Exit.then]
  have hR : WrAt w3 (w.heap.size + 1) [] [] false 0 := (hB3.block _ (by omega)).trans ((hB2.block _ (by omega)).trans ((HB1.out.block _ (by omega)).trans HR0.out))
  have y0 : w3.cell? ⟨w1.heap.size, 0, none⟩ = some (S (textW q)) := cell_of_row w3 _ 0 _ _ _ hpq
  have y1 : w3.cell? ⟨w1.heap.size, 1, none⟩ = some (S (bareW q)) := cell_of_row w3 _ 1 _ _ _ hpq
  have y2 : w3.cell? ⟨w1.heap.size, 2, none⟩ = some (.bool (saysW q 0).1) := cell_of_row w3 _ 2 _ _ _ hpq
  have y3 : w3.cell? ⟨w1.heap.size, 3, none⟩ = some (.int .i64 ((saysW q 0).2 : Nat)) := cell_of_row w3 _ 3 _ _ _ hpq
  have y4 : w3.cell? ⟨w1.heap.size, 4, none⟩ = some (.int .i64 0) := cell_of_row w3 _ 4 _ _ _ hpq
  have x0 : w3.cell? ⟨w.heap.size + 1, 0, none⟩ = some (S []) := cell_of_row w3 _ 0 _ _ _ hR
  have x1 : w3.cell? ⟨w.heap.size + 1, 1, none⟩ = some (S []) := cell_of_row w3 _ 1 _ _ _ hR
  have x2 : w3.cell? ⟨w.heap.size + 1, 2, none⟩ = some (.bool false) := cell_of_row w3 _ 2 _ _ _ hR
  have x3 : w3.cell? ⟨w.heap.size + 1, 3, none⟩ = some (.int .i64 0) := cell_of_row w3 _ 3 _ _ _ hR
  have x4 : w3.cell? ⟨w.heap.size + 1, 4, none⟩ = some (.int .i64 0) := cell_of_row w3 _ 4 _ _ _ hR
  have f0 : ∀ j, w3.frozen? ⟨w.heap.size + 1, j, none⟩ = false := fun j => by unfold WrAt at hR; simp [World.frozen?, hR]
  have HOUT : Hid (∀ w', Below w.heap.size w w' → WrittenOut c w (.returned (.agg #[S (textW q), S (bareW q), .bool (saysW q 0).1, .int .i64 ((saysW q 0).2 : Nat), .int .i64 0])) w') := fun w' h => ⟨q, hgq, hq3, rfl, h⟩
  have hsz3 : w1.heap.size ≤ w3.heap.size := by have := hB2.size; have := hB3.size; omega
  have HB : Hid (Below w.heap.size w w3) := HB0.out.trans ((HB1.out.mono (by omega)).trans ((hB2.mono (by omega)).trans (hB3.mono (by omega))))
  clear hR hpq hgq hq3 hB3 hB2 hpb HR0 HB1 HB0
  generalize textW q = tq at *
  generalize bareW q = bq at *
  generalize (saysW q 0).1 = s1 at *
  generalize (saysW q 0).2 = s2 at *
  have n1 : w.heap.size + 1 ≠ w1.heap.size := by omega
  have n2 : w1.heap.size ≠ w.heap.size + 1 := by omega
  have g0 := f0 0
  have g1 := f0 1
  have g2 := f0 2
  have g3 := f0 3
  have g4 := f0 4
  clear f0
  go_wp2_with fail
  refine bodyPost_ret (v := .agg #[S tq, S bq, .bool s1, .int .i64 (s2 : Nat), .int .i64 0]) (by simp [results, Tryz.results16, go_sem, cell_set_same, cell_set_off, some_set, x0, x1, x2, x3, x4]) rfl ?_
  exact HOUT.out _ (((((HB.out.setCell (by simp) _).setCell (by simp) _).setCell (by simp) _).setCell (by simp) _).setCell (by simp) _)
end Go.Proofs.YtfkdailfcmnjlaaGreatDoor

namespace Go.Proofs.YtfkdailfcmnjlaaGreatDoor
open Go Go.RowKit
set_option maxRecDepth 100000
attribute [local go_sem ↓] Go.wp_at_zero Go.wp_at_succ loadAt_sc

theorem new_set {W : World} {vb : Nat} {a0 a1 a2 b0 b1 b2 : Value} {t : TypeId} (h : W.heap[vb]? = some (.cells #[b0, b1, b2] t (0, 0))) : (((W.setCell ⟨vb, 0, none⟩ a0).setCell ⟨vb, 1, none⟩ a1).setCell ⟨vb, 2, none⟩ a2).heap[vb]? = some (.cells #[a0, a1, a2] t (0, 0)) := by
  have h1 : (W.setCell ⟨vb, 0, none⟩ a0).heap[vb]? = some (.cells #[a0, b1, b2] t (0, 0)) := by rw [heap_setCell_same W vb 0 _ _ _ h]; rfl
  have h2 : ((W.setCell ⟨vb, 0, none⟩ a0).setCell ⟨vb, 1, none⟩ a1).heap[vb]? = some (.cells #[a0, a1, b2] t (0, 0)) := by rw [heap_setCell_same _ vb 1 _ _ _ h1]; rfl
  rw [heap_setCell_same _ vb 2 _ _ _ h2]; rfl
theorem new_cells {W : World} {vb : Nat} {b0 b1 b2 : Value} {t : TypeId} (h : W.heap[vb]? = some (.cells #[b0, b1, b2] t (0, 0))) : W.cell? ⟨vb, 0, none⟩ = some b0 ∧ W.cell? ⟨vb, 1, none⟩ = some b1 ∧ W.cell? ⟨vb, 2, none⟩ = some b2 ∧ W.frozen? ⟨vb, 0, none⟩ = false ∧ W.frozen? ⟨vb, 1, none⟩ = false ∧ W.frozen? ⟨vb, 2, none⟩ = false :=
  ⟨cell_of_row W _ 0 _ _ _ h, cell_of_row W _ 1 _ _ _ h, cell_of_row W _ 2 _ _ _ h, by simp [World.frozen?, h], by simp [World.frozen?, h], by simp [World.frozen?, h]⟩
def tlW : List UInt8 := [97, 108, 108, 111, 119, 32, 105, 102, 32, 115, 101, 108, 102, 32, 111, 114, 32, 111, 112, 101, 110, 32, 111, 114, 32, 116, 114, 117, 101, 59]
theorem tl_read : (readOf tlW).1 = (0, 0) := by decide +kernel
theorem tl_item : ∃ x, (readOf tlW).2.2 = [x] ∧ x.name = [] ∧ x.allow = true ∧ x.top = 4 := ⟨(readOf tlW).2.2.headD ⟨[], false, 0, 0, 0, 0⟩, by kernel_rfl, by kernel_rfl, by kernel_rfl, by kernel_rfl⟩
theorem tl_tell (fl : List Int) : ∃ a : Int, tellF (readOf tlW).2.2 [] fl (readOf tlW).2.1 (4 + 1) 4 = truthI (a == 1 || (1 : Int) == 1) := ⟨tellF (readOf tlW).2.2 [] fl (readOf tlW).2.1 4 2, by kernel_rfl⟩
theorem tl_mean (fl : List Int) : meanOf tlW fl = (true, 1) := by
  obtain ⟨x, h1, h2, h3, h4⟩ := tl_item
  obtain ⟨a, ha⟩ := tl_tell fl
  have ht : tellF (readOf tlW).2.2 [] fl (readOf tlW).2.1 (4 + 1) 4 = 1 := by rw [ha]; simp [truthI]
  unfold meanOf
  rw [tl_read]
  generalize (readOf tlW).2.1 = L at *
  rw [h1] at ht ⊢
  rw [if_pos rfl, meanL, if_pos h2, h4, if_pos ht, h3]
  rfl
end Go.Proofs.YtfkdailfcmnjlaaGreatDoor

namespace Go.Proofs.YtfkdailfcmnjlaaGreatDoor
open Go Go.RowKit
set_option maxRecDepth 100000
attribute [local go_sem ↓] Go.wp_at_zero Go.wp_at_succ loadAt_sc

set_option maxHeartbeats 8000000 in
set_option maxRecDepth 1000000 in
theorem tl_2 {cb pb : Nat} {c : Scn} (hc : ScnIn c) {l : List UInt8} {r : Bool × Nat} {k : Nat} {w0 : World} (c0 c1 c3 c4 c6 c7 c8 c9 c10 c11 c12 c13 c14 c15 c16 c17 c18 c19 c20 c21 c22 c23 c24 c25 c26 c27 c28 c29 c30 c31 c32 c33 c34 c35 c36 c37 c38 c39 c40 c41 c42 c43 c44 c45 c46 c47 c48 c49 c50 c51 c52 c53 c54 c55 c56 c57 c58 c59 c60 c61 c62 c63 c64 c65 c66 c67 c68 c69 c70 c71 c72 c73 c74 c75 c76 c77 c78 c79 c80 c81 c82 c83 c84 c85 c86 c87 c88 c89 c90 : Value) (hcb : w0.heap[cb]? = some (.cells (scC c) 37 (0, 0))) (ht : w0.cell? ⟨pb, 0, none⟩ = some (S l)) 
    (HM : ∀ W lv mv, Below w0.heap.size w0 W → PairsAt lv (scSt c).levels W → PairsAt mv (scSt c).members W → Calls Tryz.prog 18 #[S l, evV (scEv c), sttV lv mv (scSt c)] W fun en w' => en = .returned (.tuple #[verV r, .int .i64 (k : Nat)]) ∧ Below W.heap.size W w') :
    Code.wp Tryz.prog ((Tryz.f7.body.bind (regIn 2)).getD .skip) (JN (fun a' w' => ∃ (vb : Nat) (u18 u19 u20 u21 u22 u23 u24 u25 u26 u27 : Value), a' = ⟨#[c0, c1, .pointer (some ⟨cb, 0, none⟩), c3, c4, .pointer (some ⟨pb, 0, none⟩), .pointer (some ⟨vb, 0, none⟩), .int .i64 (k : Nat), c8, c9, c10, c11, c12, c13, c14, c15, c16, c17, u18, u19, u20, u21, u22, u23, u24, u25, u26, u27, c28, c29, c30, c31, c32, c33, c34, c35, c36, c37, c38, c39, c40, c41, c42, c43, c44, c45, c46, c47, c48, c49, c50, c51, c52, c53, c54, c55, c56, c57, c58, c59, c60, c61, c62, c63, c64, c65, c66, c67, c68, c69, c70, c71, c72, c73, c74, c75, c76, c77, c78, c79, c80, c81, c82, c83, c84, c85, c86, c87, c88, c89, c90], []⟩ ∧ (w'.heap[vb]? = some (.cells #[.bool r.1, .int .i64 (r.2 : Nat), .int .i64 0] 40 (0, 0)) ∧ Below w0.heap.size w0 w'))) ⟨#[c0, c1, .pointer (some ⟨cb, 0, none⟩), c3, c4, .pointer (some ⟨pb, 0, none⟩), c6, c7, c8, c9, c10, c11, c12, c13, c14, c15, c16, c17, c18, c19, c20, c21, c22, c23, c24, c25, c26, c27, c28, c29, c30, c31, c32, c33, c34, c35, c36, c37, c38, c39, c40, c41, c42, c43, c44, c45, c46, c47, c48, c49, c50, c51, c52, c53, c54, c55, c56, c57, c58, c59, c60, c61, c62, c63, c64, c65, c66, c67, c68, c69, c70, c71, c72, c73, c74, c75, c76, c77, c78, c79, c80, c81, c82, c83, c84, c85, c86, c87, c88, c89, c90], []⟩ w0 := by
  have hlt := lt_of_get hcb
  have HO : ∀ W, Below w0.heap.size w0 W → (loadSc (.pointer (some ⟨cb, 0, none⟩))).run Tryz.prog W = .ok (.agg (scC c)) W := fun W h => loadSc_row W _ _ ((h.block _ hlt).trans hcb) rfl
  have T0 : ∀ W, Below w0.heap.size w0 W → W.cell? ⟨pb, 0, none⟩ = some (S l) := fun W h => by rw [h.cell (p := ⟨pb, 0, none⟩) (World.block_lt_of_cell? w0 _ ht)]; exact ht
  clear ht
  have E1 := fun W => event_any hc W
  have E2 := fun W => state_any hc W
  have HJ : Hid _ := HM
  unfold verV at HJ
  have hS0 : Below w0.heap.size w0 w0 := Below.refl _ _
  have KB : Hid (∀ W W' : World, Below w0.heap.size w0 W → Below W.heap.size W W' → Below w0.heap.size w0 W') := fun W W' h h' => h.trans (h'.mono h.size)
  have KD : Hid (∀ W : World, Below w0.heap.size w0 W → Below w0.heap.size w0 W.drew) := fun W h => h.drew
  have KA : Hid (∀ (W : World) (o : Obj), Below w0.heap.size w0 W → Below w0.heap.size w0 (W.alloc o)) := fun W o h => h.alloc h.size _
  have KS : Hid (∀ (W : World) (a : Addr) (u : Value), w0.heap.size ≤ a.block → Below w0.heap.size w0 W → Below w0.heap.size w0 (W.setCell a u)) := fun W a u h h' => h'.setCell h _
  clear HM hcb hlt
  conv => arg 2; whnf
  go_region_held3 (fun W => Below w0.heap.size w0 W) (first | assumption | exact KB.out _ _ (by assumption) hb3 | exact KB.out _ _ (by assumption) hb4 | exact KB.out _ _ (by assumption) hb5 | (repeat' first | exact hS0 | with_reducible assumption | with_reducible apply KD.out | with_reducible apply KA.out | (with_reducible refine KS.out _ _ _ (by simp only []; omega) ?_)))
    (first
      | (go_at_call 21; refine (E1 _).mono ?_; rintro e w3 ⟨rfl, hb3⟩; have z3 : w0.heap.size ≤ w3.heap.size := Nat.le_trans (by first | exact Nat.le_refl _ | (show w0.heap.size ≤ (World.alloc w0 _).heap.size; rw [World.size_alloc]; exact Nat.le_succ _)) hb3.size; (first | (have hv3 := (hb3.block w0.heap.size (by show w0.heap.size < (World.alloc w0 _).heap.size; rw [World.size_alloc]; exact Nat.lt_succ_self _)).trans (heap_alloc_new w0 _)) | skip))
      | (go_at_call 22; refine (E2 _).mono ?_; rintro e w4 ⟨lv, mv, rfl, hp4, hm4, hb4⟩; have z4 : w3.heap.size ≤ w4.heap.size := Nat.le_trans (by first | exact Nat.le_refl _ | (rw [World.size_alloc]; exact Nat.le_succ _)) hb4.size; (first | (have hv4 := (hb4.block _ (lt_of_get hv3)).trans hv3) | (have hv4 := (hb4.block w3.heap.size (by rw [World.size_alloc]; exact Nat.lt_succ_self _)).trans (heap_alloc_new w3 _)) | skip))
      | (go_at_call 18; refine (HJ.out _ lv mv (by assumption) ?_ ?_).mono ?_; (first | exact hp4 | exact hp4.below ((Below.refl _ _).alloc (Nat.le_refl _) _)); (first | exact hm4 | exact hm4.below ((Below.refl _ _).alloc (Nat.le_refl _) _)); rintro e w5 ⟨rfl, hb5⟩; have S5 := KB.out _ _ (by assumption) hb5; have z5 : w4.heap.size ≤ w5.heap.size := Nat.le_trans (by first | exact Nat.le_refl _ | (rw [World.size_alloc]; exact Nat.le_succ _)) hb5.size; (first | (have hv5 := (hb5.block _ (lt_of_get hv4)).trans hv4) | (have hv5 := (hb5.block w4.heap.size (by rw [World.size_alloc]; exact Nat.lt_succ_self _)).trans (heap_alloc_new w4 _)) | skip); (first | (have hx5 := new_cells hv5; obtain ⟨k0, k1, k2, j0, j1, j2⟩ := hx5) | skip)))
  all_goals
    rename_i hHeld
    first
      | exact ⟨_, _, _, _, _, _, _, _, _, _, _, rfl, new_set hv5, hHeld⟩
      | exact ⟨_, _, _, _, _, _, _, _, _, _, _, rfl, heap_alloc_new w5 _, hHeld⟩
end Go.Proofs.YtfkdailfcmnjlaaGreatDoor

namespace Go.Proofs.YtfkdailfcmnjlaaGreatDoor
open Go Go.RowKit
set_option maxRecDepth 100000
attribute [local go_sem ↓] Go.wp_at_zero Go.wp_at_succ loadAt_sc

set_option maxHeartbeats 8000000 in
set_option maxRecDepth 1000000 in
theorem tl_3 {cb pb : Nat} {c : Scn} (hc : ScnIn c) {l : List UInt8} {r : Bool × Nat} {k : Nat} {w0 : World} (c0 c1 c3 c4 c6 c7 c8 c9 c10 c11 c12 c13 c14 c15 c16 c17 c18 c19 c20 c21 c22 c23 c24 c25 c26 c27 c28 c29 c30 c31 c32 c33 c34 c35 c36 c37 c38 c39 c40 c41 c42 c43 c44 c45 c46 c47 c48 c49 c50 c51 c52 c53 c54 c55 c56 c57 c58 c59 c60 c61 c62 c63 c64 c65 c66 c67 c68 c69 c70 c71 c72 c73 c74 c75 c76 c77 c78 c79 c80 c81 c82 c83 c84 c85 c86 c87 c88 c89 c90 : Value) (hcb : w0.heap[cb]? = some (.cells (scC c) 37 (0, 0))) (ht : w0.cell? ⟨pb, 1, none⟩ = some (S l)) 
    (HM : ∀ W lv mv, Below w0.heap.size w0 W → PairsAt lv (scSt c).levels W → PairsAt mv (scSt c).members W → Calls Tryz.prog 18 #[S l, evV (scEv c), sttV lv mv (scSt c)] W fun en w' => en = .returned (.tuple #[verV r, .int .i64 (k : Nat)]) ∧ Below W.heap.size W w') :
    Code.wp Tryz.prog ((Tryz.f7.body.bind (regIn 3)).getD .skip) (JN (fun a' w' => ∃ (vb : Nat) (u28 u29 u30 u31 u32 u33 u34 u35 u36 u37 : Value), a' = ⟨#[c0, c1, .pointer (some ⟨cb, 0, none⟩), c3, c4, .pointer (some ⟨pb, 0, none⟩), c6, c7, .pointer (some ⟨vb, 0, none⟩), .int .i64 (k : Nat), c10, c11, c12, c13, c14, c15, c16, c17, c18, c19, c20, c21, c22, c23, c24, c25, c26, c27, u28, u29, u30, u31, u32, u33, u34, u35, u36, u37, c38, c39, c40, c41, c42, c43, c44, c45, c46, c47, c48, c49, c50, c51, c52, c53, c54, c55, c56, c57, c58, c59, c60, c61, c62, c63, c64, c65, c66, c67, c68, c69, c70, c71, c72, c73, c74, c75, c76, c77, c78, c79, c80, c81, c82, c83, c84, c85, c86, c87, c88, c89, c90], []⟩ ∧ (w'.heap[vb]? = some (.cells #[.bool r.1, .int .i64 (r.2 : Nat), .int .i64 0] 40 (0, 0)) ∧ Below w0.heap.size w0 w'))) ⟨#[c0, c1, .pointer (some ⟨cb, 0, none⟩), c3, c4, .pointer (some ⟨pb, 0, none⟩), c6, c7, c8, c9, c10, c11, c12, c13, c14, c15, c16, c17, c18, c19, c20, c21, c22, c23, c24, c25, c26, c27, c28, c29, c30, c31, c32, c33, c34, c35, c36, c37, c38, c39, c40, c41, c42, c43, c44, c45, c46, c47, c48, c49, c50, c51, c52, c53, c54, c55, c56, c57, c58, c59, c60, c61, c62, c63, c64, c65, c66, c67, c68, c69, c70, c71, c72, c73, c74, c75, c76, c77, c78, c79, c80, c81, c82, c83, c84, c85, c86, c87, c88, c89, c90], []⟩ w0 := by
  have hlt := lt_of_get hcb
  have HO : ∀ W, Below w0.heap.size w0 W → (loadSc (.pointer (some ⟨cb, 0, none⟩))).run Tryz.prog W = .ok (.agg (scC c)) W := fun W h => loadSc_row W _ _ ((h.block _ hlt).trans hcb) rfl
  have T0 : ∀ W, Below w0.heap.size w0 W → W.cell? ⟨pb, 1, none⟩ = some (S l) := fun W h => by rw [h.cell (p := ⟨pb, 1, none⟩) (World.block_lt_of_cell? w0 _ ht)]; exact ht
  clear ht
  have E1 := fun W => event_any hc W
  have E2 := fun W => state_any hc W
  have HJ : Hid _ := HM
  unfold verV at HJ
  have hS0 : Below w0.heap.size w0 w0 := Below.refl _ _
  have KB : Hid (∀ W W' : World, Below w0.heap.size w0 W → Below W.heap.size W W' → Below w0.heap.size w0 W') := fun W W' h h' => h.trans (h'.mono h.size)
  have KD : Hid (∀ W : World, Below w0.heap.size w0 W → Below w0.heap.size w0 W.drew) := fun W h => h.drew
  have KA : Hid (∀ (W : World) (o : Obj), Below w0.heap.size w0 W → Below w0.heap.size w0 (W.alloc o)) := fun W o h => h.alloc h.size _
  have KS : Hid (∀ (W : World) (a : Addr) (u : Value), w0.heap.size ≤ a.block → Below w0.heap.size w0 W → Below w0.heap.size w0 (W.setCell a u)) := fun W a u h h' => h'.setCell h _
  clear HM hcb hlt
  conv => arg 2; whnf
  go_region_held3 (fun W => Below w0.heap.size w0 W) (first | assumption | exact KB.out _ _ (by assumption) hb3 | exact KB.out _ _ (by assumption) hb4 | exact KB.out _ _ (by assumption) hb5 | (repeat' first | exact hS0 | with_reducible assumption | with_reducible apply KD.out | with_reducible apply KA.out | (with_reducible refine KS.out _ _ _ (by simp only []; omega) ?_)))
    (first
      | (go_at_call 21; refine (E1 _).mono ?_; rintro e w3 ⟨rfl, hb3⟩; have z3 : w0.heap.size ≤ w3.heap.size := Nat.le_trans (by first | exact Nat.le_refl _ | (show w0.heap.size ≤ (World.alloc w0 _).heap.size; rw [World.size_alloc]; exact Nat.le_succ _)) hb3.size; (first | (have hv3 := (hb3.block w0.heap.size (by show w0.heap.size < (World.alloc w0 _).heap.size; rw [World.size_alloc]; exact Nat.lt_succ_self _)).trans (heap_alloc_new w0 _)) | skip))
      | (go_at_call 22; refine (E2 _).mono ?_; rintro e w4 ⟨lv, mv, rfl, hp4, hm4, hb4⟩; have z4 : w3.heap.size ≤ w4.heap.size := Nat.le_trans (by first | exact Nat.le_refl _ | (rw [World.size_alloc]; exact Nat.le_succ _)) hb4.size; (first | (have hv4 := (hb4.block _ (lt_of_get hv3)).trans hv3) | (have hv4 := (hb4.block w3.heap.size (by rw [World.size_alloc]; exact Nat.lt_succ_self _)).trans (heap_alloc_new w3 _)) | skip))
      | (go_at_call 18; refine (HJ.out _ lv mv (by assumption) ?_ ?_).mono ?_; (first | exact hp4 | exact hp4.below ((Below.refl _ _).alloc (Nat.le_refl _) _)); (first | exact hm4 | exact hm4.below ((Below.refl _ _).alloc (Nat.le_refl _) _)); rintro e w5 ⟨rfl, hb5⟩; have S5 := KB.out _ _ (by assumption) hb5; have z5 : w4.heap.size ≤ w5.heap.size := Nat.le_trans (by first | exact Nat.le_refl _ | (rw [World.size_alloc]; exact Nat.le_succ _)) hb5.size; (first | (have hv5 := (hb5.block _ (lt_of_get hv4)).trans hv4) | (have hv5 := (hb5.block w4.heap.size (by rw [World.size_alloc]; exact Nat.lt_succ_self _)).trans (heap_alloc_new w4 _)) | skip); (first | (have hx5 := new_cells hv5; obtain ⟨k0, k1, k2, j0, j1, j2⟩ := hx5) | skip)))
  all_goals
    rename_i hHeld
    first
      | exact ⟨_, _, _, _, _, _, _, _, _, _, _, rfl, new_set hv5, hHeld⟩
      | exact ⟨_, _, _, _, _, _, _, _, _, _, _, rfl, heap_alloc_new w5 _, hHeld⟩
end Go.Proofs.YtfkdailfcmnjlaaGreatDoor

namespace Go.Proofs.YtfkdailfcmnjlaaGreatDoor
open Go Go.RowKit
set_option maxRecDepth 100000
attribute [local go_sem ↓] Go.wp_at_zero Go.wp_at_succ loadAt_sc

set_option maxHeartbeats 8000000 in
set_option maxRecDepth 1000000 in
theorem tl_4 {cb pb : Nat} {c : Scn} (hc : ScnIn c) {r : Bool × Nat} {k : Nat} {w0 : World} (c0 c1 c3 c4 c6 c7 c8 c9 c10 c11 c12 c13 c14 c15 c16 c17 c18 c19 c20 c21 c22 c23 c24 c25 c26 c27 c28 c29 c30 c31 c32 c33 c34 c35 c36 c37 c38 c39 c40 c41 c42 c43 c44 c45 c46 c47 c48 c49 c50 c51 c52 c53 c54 c55 c56 c57 c58 c59 c60 c61 c62 c63 c64 c65 c66 c67 c68 c69 c70 c71 c72 c73 c74 c75 c76 c77 c78 c79 c80 c81 c82 c83 c84 c85 c86 c87 c88 c89 c90 : Value) (hcb : w0.heap[cb]? = some (.cells (scC c) 37 (0, 0))) 
    (HM : ∀ W lv mv, Below w0.heap.size w0 W → PairsAt lv (scSt c).levels W → PairsAt mv (scSt c).members W → Calls Tryz.prog 18 #[S [97, 108, 108, 111, 119, 32, 105, 102, 32, 115, 101, 108, 102, 32, 111, 114, 32, 111, 112, 101, 110, 32, 111, 114, 32, 116, 114, 117, 101, 59], evV (scEv c), sttV lv mv (scSt c)] W fun en w' => en = .returned (.tuple #[verV r, .int .i64 (k : Nat)]) ∧ Below W.heap.size W w') :
    Code.wp Tryz.prog ((Tryz.f7.body.bind (regIn 4)).getD .skip) (JN (fun a' w' => ∃ (vb : Nat) (u38 u39 u40 u41 u42 u43 u44 u45 : Value), a' = ⟨#[c0, c1, .pointer (some ⟨cb, 0, none⟩), c3, c4, .pointer (some ⟨pb, 0, none⟩), c6, c7, c8, c9, .pointer (some ⟨vb, 0, none⟩), .int .i64 (k : Nat), c12, c13, c14, c15, c16, c17, c18, c19, c20, c21, c22, c23, c24, c25, c26, c27, c28, c29, c30, c31, c32, c33, c34, c35, c36, c37, u38, u39, u40, u41, u42, u43, u44, u45, c46, c47, c48, c49, c50, c51, c52, c53, c54, c55, c56, c57, c58, c59, c60, c61, c62, c63, c64, c65, c66, c67, c68, c69, c70, c71, c72, c73, c74, c75, c76, c77, c78, c79, c80, c81, c82, c83, c84, c85, c86, c87, c88, c89, c90], []⟩ ∧ (w'.heap[vb]? = some (.cells #[.bool r.1, .int .i64 (r.2 : Nat), .int .i64 0] 40 (0, 0)) ∧ Below w0.heap.size w0 w'))) ⟨#[c0, c1, .pointer (some ⟨cb, 0, none⟩), c3, c4, .pointer (some ⟨pb, 0, none⟩), c6, c7, c8, c9, c10, c11, c12, c13, c14, c15, c16, c17, c18, c19, c20, c21, c22, c23, c24, c25, c26, c27, c28, c29, c30, c31, c32, c33, c34, c35, c36, c37, c38, c39, c40, c41, c42, c43, c44, c45, c46, c47, c48, c49, c50, c51, c52, c53, c54, c55, c56, c57, c58, c59, c60, c61, c62, c63, c64, c65, c66, c67, c68, c69, c70, c71, c72, c73, c74, c75, c76, c77, c78, c79, c80, c81, c82, c83, c84, c85, c86, c87, c88, c89, c90], []⟩ w0 := by
  have hlt := lt_of_get hcb
  have HO : ∀ W, Below w0.heap.size w0 W → (loadSc (.pointer (some ⟨cb, 0, none⟩))).run Tryz.prog W = .ok (.agg (scC c)) W := fun W h => loadSc_row W _ _ ((h.block _ hlt).trans hcb) rfl
  have E1 := fun W => event_any hc W
  have E2 := fun W => state_any hc W
  have HJ : Hid _ := HM
  unfold verV at HJ
  have hS0 : Below w0.heap.size w0 w0 := Below.refl _ _
  have KB : Hid (∀ W W' : World, Below w0.heap.size w0 W → Below W.heap.size W W' → Below w0.heap.size w0 W') := fun W W' h h' => h.trans (h'.mono h.size)
  have KD : Hid (∀ W : World, Below w0.heap.size w0 W → Below w0.heap.size w0 W.drew) := fun W h => h.drew
  have KA : Hid (∀ (W : World) (o : Obj), Below w0.heap.size w0 W → Below w0.heap.size w0 (W.alloc o)) := fun W o h => h.alloc h.size _
  have KS : Hid (∀ (W : World) (a : Addr) (u : Value), w0.heap.size ≤ a.block → Below w0.heap.size w0 W → Below w0.heap.size w0 (W.setCell a u)) := fun W a u h h' => h'.setCell h _
  clear HM hcb hlt
  conv => arg 2; whnf
  go_region_held3 (fun W => Below w0.heap.size w0 W) (first | assumption | exact KB.out _ _ (by assumption) hb3 | exact KB.out _ _ (by assumption) hb4 | exact KB.out _ _ (by assumption) hb5 | (repeat' first | exact hS0 | with_reducible assumption | with_reducible apply KD.out | with_reducible apply KA.out | (with_reducible refine KS.out _ _ _ (by simp only []; omega) ?_)))
    (first
      | (go_at_call 21; refine (E1 _).mono ?_; rintro e w3 ⟨rfl, hb3⟩; have z3 : w0.heap.size ≤ w3.heap.size := Nat.le_trans (by first | exact Nat.le_refl _ | (show w0.heap.size ≤ (World.alloc w0 _).heap.size; rw [World.size_alloc]; exact Nat.le_succ _)) hb3.size; (first | (have hv3 := (hb3.block w0.heap.size (by show w0.heap.size < (World.alloc w0 _).heap.size; rw [World.size_alloc]; exact Nat.lt_succ_self _)).trans (heap_alloc_new w0 _)) | skip))
      | (go_at_call 22; refine (E2 _).mono ?_; rintro e w4 ⟨lv, mv, rfl, hp4, hm4, hb4⟩; have z4 : w3.heap.size ≤ w4.heap.size := Nat.le_trans (by first | exact Nat.le_refl _ | (rw [World.size_alloc]; exact Nat.le_succ _)) hb4.size; (first | (have hv4 := (hb4.block _ (lt_of_get hv3)).trans hv3) | (have hv4 := (hb4.block w3.heap.size (by rw [World.size_alloc]; exact Nat.lt_succ_self _)).trans (heap_alloc_new w3 _)) | skip))
      | (go_at_call 18; refine (HJ.out _ lv mv (by assumption) ?_ ?_).mono ?_; (first | exact hp4 | exact hp4.below ((Below.refl _ _).alloc (Nat.le_refl _) _)); (first | exact hm4 | exact hm4.below ((Below.refl _ _).alloc (Nat.le_refl _) _)); rintro e w5 ⟨rfl, hb5⟩; have S5 := KB.out _ _ (by assumption) hb5; have z5 : w4.heap.size ≤ w5.heap.size := Nat.le_trans (by first | exact Nat.le_refl _ | (rw [World.size_alloc]; exact Nat.le_succ _)) hb5.size; (first | (have hv5 := (hb5.block _ (lt_of_get hv4)).trans hv4) | (have hv5 := (hb5.block w4.heap.size (by rw [World.size_alloc]; exact Nat.lt_succ_self _)).trans (heap_alloc_new w4 _)) | skip); (first | (have hx5 := new_cells hv5; obtain ⟨k0, k1, k2, j0, j1, j2⟩ := hx5) | skip)))
  all_goals
    rename_i hHeld
    first
      | exact ⟨_, _, _, _, _, _, _, _, _, rfl, new_set hv5, hHeld⟩
      | exact ⟨_, _, _, _, _, _, _, _, _, rfl, heap_alloc_new w5 _, hHeld⟩
end Go.Proofs.YtfkdailfcmnjlaaGreatDoor

namespace Go.Proofs.YtfkdailfcmnjlaaGreatDoor
open Go Go.RowKit
set_option maxRecDepth 100000
attribute [local go_sem ↓] Go.wp_at_zero Go.wp_at_succ loadAt_sc

set_option maxHeartbeats 8000000 in
set_option maxRecDepth 1000000 in
theorem tl_5 {cb pb : Nat} {c : Scn} (hc : ScnIn c) {r : Bool × Nat} {k : Nat} {w0 : World} (c0 c1 c3 c4 c6 c7 c8 c9 c10 c11 c12 c13 c14 c15 c16 c17 c18 c19 c20 c21 c22 c23 c24 c25 c26 c27 c28 c29 c30 c31 c32 c33 c34 c35 c36 c37 c38 c39 c40 c41 c42 c43 c44 c45 c46 c47 c48 c49 c50 c51 c52 c53 c54 c55 c56 c57 c58 c59 c60 c61 c62 c63 c64 c65 c66 c67 c68 c69 c70 c71 c72 c73 c74 c75 c76 c77 c78 c79 c80 c81 c82 c83 c84 c85 c86 c87 c88 c89 c90 : Value) (hcb : w0.heap[cb]? = some (.cells (scC c) 37 (0, 0))) 
    (HM : ∀ W lv mv, Below w0.heap.size w0 W → PairsAt lv (scSt c).levels W → PairsAt mv (scSt c).members W → Calls Tryz.prog 18 #[S [], evV (scEv c), sttV lv mv (scSt c)] W fun en w' => en = .returned (.tuple #[verV r, .int .i64 (k : Nat)]) ∧ Below W.heap.size W w') :
    Code.wp Tryz.prog ((Tryz.f7.body.bind (regIn 5)).getD .skip) (JN (fun a' w' => ∃ (vb : Nat) (u46 u47 u48 u49 u50 u51 u52 u53 : Value), a' = ⟨#[c0, c1, .pointer (some ⟨cb, 0, none⟩), c3, c4, .pointer (some ⟨pb, 0, none⟩), c6, c7, c8, c9, c10, c11, .pointer (some ⟨vb, 0, none⟩), .int .i64 (k : Nat), c14, c15, c16, c17, c18, c19, c20, c21, c22, c23, c24, c25, c26, c27, c28, c29, c30, c31, c32, c33, c34, c35, c36, c37, c38, c39, c40, c41, c42, c43, c44, c45, u46, u47, u48, u49, u50, u51, u52, u53, c54, c55, c56, c57, c58, c59, c60, c61, c62, c63, c64, c65, c66, c67, c68, c69, c70, c71, c72, c73, c74, c75, c76, c77, c78, c79, c80, c81, c82, c83, c84, c85, c86, c87, c88, c89, c90], []⟩ ∧ (w'.heap[vb]? = some (.cells #[.bool r.1, .int .i64 (r.2 : Nat), .int .i64 0] 40 (0, 0)) ∧ Below w0.heap.size w0 w'))) ⟨#[c0, c1, .pointer (some ⟨cb, 0, none⟩), c3, c4, .pointer (some ⟨pb, 0, none⟩), c6, c7, c8, c9, c10, c11, c12, c13, c14, c15, c16, c17, c18, c19, c20, c21, c22, c23, c24, c25, c26, c27, c28, c29, c30, c31, c32, c33, c34, c35, c36, c37, c38, c39, c40, c41, c42, c43, c44, c45, c46, c47, c48, c49, c50, c51, c52, c53, c54, c55, c56, c57, c58, c59, c60, c61, c62, c63, c64, c65, c66, c67, c68, c69, c70, c71, c72, c73, c74, c75, c76, c77, c78, c79, c80, c81, c82, c83, c84, c85, c86, c87, c88, c89, c90], []⟩ w0 := by
  have hlt := lt_of_get hcb
  have HO : ∀ W, Below w0.heap.size w0 W → (loadSc (.pointer (some ⟨cb, 0, none⟩))).run Tryz.prog W = .ok (.agg (scC c)) W := fun W h => loadSc_row W _ _ ((h.block _ hlt).trans hcb) rfl
  have E1 := fun W => event_any hc W
  have E2 := fun W => state_any hc W
  have HJ : Hid _ := HM
  unfold verV at HJ
  have hS0 : Below w0.heap.size w0 w0 := Below.refl _ _
  have KB : Hid (∀ W W' : World, Below w0.heap.size w0 W → Below W.heap.size W W' → Below w0.heap.size w0 W') := fun W W' h h' => h.trans (h'.mono h.size)
  have KD : Hid (∀ W : World, Below w0.heap.size w0 W → Below w0.heap.size w0 W.drew) := fun W h => h.drew
  have KA : Hid (∀ (W : World) (o : Obj), Below w0.heap.size w0 W → Below w0.heap.size w0 (W.alloc o)) := fun W o h => h.alloc h.size _
  have KS : Hid (∀ (W : World) (a : Addr) (u : Value), w0.heap.size ≤ a.block → Below w0.heap.size w0 W → Below w0.heap.size w0 (W.setCell a u)) := fun W a u h h' => h'.setCell h _
  clear HM hcb hlt
  conv => arg 2; whnf
  go_region_held3 (fun W => Below w0.heap.size w0 W) (first | assumption | exact KB.out _ _ (by assumption) hb3 | exact KB.out _ _ (by assumption) hb4 | exact KB.out _ _ (by assumption) hb5 | (repeat' first | exact hS0 | with_reducible assumption | with_reducible apply KD.out | with_reducible apply KA.out | (with_reducible refine KS.out _ _ _ (by simp only []; omega) ?_)))
    (first
      | (go_at_call 21; refine (E1 _).mono ?_; rintro e w3 ⟨rfl, hb3⟩; have z3 : w0.heap.size ≤ w3.heap.size := Nat.le_trans (by first | exact Nat.le_refl _ | (show w0.heap.size ≤ (World.alloc w0 _).heap.size; rw [World.size_alloc]; exact Nat.le_succ _)) hb3.size; (first | (have hv3 := (hb3.block w0.heap.size (by show w0.heap.size < (World.alloc w0 _).heap.size; rw [World.size_alloc]; exact Nat.lt_succ_self _)).trans (heap_alloc_new w0 _)) | skip))
      | (go_at_call 22; refine (E2 _).mono ?_; rintro e w4 ⟨lv, mv, rfl, hp4, hm4, hb4⟩; have z4 : w3.heap.size ≤ w4.heap.size := Nat.le_trans (by first | exact Nat.le_refl _ | (rw [World.size_alloc]; exact Nat.le_succ _)) hb4.size; (first | (have hv4 := (hb4.block _ (lt_of_get hv3)).trans hv3) | (have hv4 := (hb4.block w3.heap.size (by rw [World.size_alloc]; exact Nat.lt_succ_self _)).trans (heap_alloc_new w3 _)) | skip))
      | (go_at_call 18; refine (HJ.out _ lv mv (by assumption) ?_ ?_).mono ?_; (first | exact hp4 | exact hp4.below ((Below.refl _ _).alloc (Nat.le_refl _) _)); (first | exact hm4 | exact hm4.below ((Below.refl _ _).alloc (Nat.le_refl _) _)); rintro e w5 ⟨rfl, hb5⟩; have S5 := KB.out _ _ (by assumption) hb5; have z5 : w4.heap.size ≤ w5.heap.size := Nat.le_trans (by first | exact Nat.le_refl _ | (rw [World.size_alloc]; exact Nat.le_succ _)) hb5.size; (first | (have hv5 := (hb5.block _ (lt_of_get hv4)).trans hv4) | (have hv5 := (hb5.block w4.heap.size (by rw [World.size_alloc]; exact Nat.lt_succ_self _)).trans (heap_alloc_new w4 _)) | skip); (first | (have hx5 := new_cells hv5; obtain ⟨k0, k1, k2, j0, j1, j2⟩ := hx5) | skip)))
  all_goals
    rename_i hHeld
    first
      | exact ⟨_, _, _, _, _, _, _, _, _, rfl, new_set hv5, hHeld⟩
      | exact ⟨_, _, _, _, _, _, _, _, _, rfl, heap_alloc_new w5 _, hHeld⟩
end Go.Proofs.YtfkdailfcmnjlaaGreatDoor

namespace Go.Proofs.YtfkdailfcmnjlaaGreatDoor
open Go Go.RowKit
set_option maxRecDepth 100000
attribute [local go_sem ↓] Go.wp_at_zero Go.wp_at_succ loadAt_sc

set_option maxHeartbeats 8000000 in
set_option maxRecDepth 1000000 in
theorem tells_law {c : Scn} (hc : ScnIn c) {rv : Value} {w : World} (HWr : ∀ w', Below w.heap.size w w' → Calls Tryz.prog 16 #[.agg (scC c), rv] w' (WrittenOut c w')) (hW : Wd w) :
    Calls Tryz.prog 7 #[.agg (scC c), rv] w fun e w' => e = .returned (.bool true) ∧ Below w.heap.size w w' := by
  have HF : FieldsOK (fieldsL (scEv c) (scSt c)) := fields_ok _ _ hc.nd hc.wh hc.df (fun x hx => lv2_in hc 2 x hx)
  have HM : Hid (∀ (l : List UInt8) (r : Bool × Nat), l.length ≤ maxLen → (readOf l).1 = (0, 0) → meanOf l (scF c) = r → ∀ W lv mv, Below w.heap.size w W → PairsAt lv (scSt c).levels W → PairsAt mv (scSt c).members W → Calls Tryz.prog 18 #[S l, evV (scEv c), sttV lv mv (scSt c)] W fun en w' => en = .returned (.tuple #[verV r, .int .i64 ((0 : Nat) : Int)]) ∧ Below W.heap.size W w') := fun l r hl h0 hr W lv mv hb p1 p2 => by
    have h := mean_prog l (scEv c) (scSt c) W (Wd.below hW hb) hl p1 p2 HF
    rw [scF_fields, hr, h0] at h
    exact h
  clear HF hW
  have HO : (loadSc (.pointer (some ⟨w.heap.size, 0, none⟩))).run Tryz.prog (w.alloc (.cells (scC c) 37)) = .ok (.agg (scC c)) (w.alloc (.cells (scC c) 37)) := loadSc_row _ _ _ (heap_alloc_new w _) rfl
  have hB0 : Below w.heap.size w (w.alloc (.cells (scC c) 37)) := (Below.refl _ _).alloc (Nat.le_refl _) _
  have hC0 : (w.alloc (.cells (scC c) 37)).heap[w.heap.size]? = some (.cells (scC c) 37 (0, 0)) := heap_alloc_new w _
  have W1 := HWr _ hB0
  have HB0 : Hid _ := hB0
  have HC0 : Hid _ := hC0
  clear HWr hB0 hC0
  go_enter Tryz.func7, Tryz.ntmps7
  go_wp2_with fail
  refine W1.mono ?_
  rintro e w1 ⟨q, hq, hql, rfl, hb1⟩
  obtain ⟨o1, _, o3, o4, _, o6⟩ := written_ok hq hql
  obtain ⟨n1, n2⟩ := wr_len hq hql
  have B1 : Below w.heap.size w w1 := HB0.out.trans (hb1.mono HB0.out.size)
  have C1 : w1.heap[w.heap.size]? = some (.cells (scC c) 37 (0, 0)) := (hb1.block _ (by simp)).trans HC0.out
  clear W1 HO HB0 HC0 hb1
  go_upto_region 2 with fail
  go_name_world w2 hw2
  have B2 : Below w1.heap.size w1 w2 := by rw [← hw2]; exact (Below.refl _ _).alloc (Nat.le_refl _) _
  have hp : w2.heap[w1.heap.size]? = some (.cells #[S (textW q), S (bareW q), .bool (saysW q 0).1, .int .i64 ((saysW q 0).2 : Nat), .int .i64 0] 42 (0, 0)) := by rw [← hw2]; exact heap_alloc_new w1 _
  clear hw2
  have A2 : Below w.heap.size w w2 := B1.trans (B2.mono B1.size)
  have C2 := (B2.block _ (lt_of_get C1)).trans C1
  refine wp_take (tl_2 hc (l := textW q) (r := saysW q 0) (k := 0) _ _ _ _ _ _ _ _ _ _ _ _ _ _ _ _ _ _ _ _ _ _ _ _ _ _ _ _ _ _ _ _ _ _ _ _ _ _ _ _ _ _ _ _ _ _ _ _ _ _ _ _ _ _ _ _ _ _ _ _ _ _ _ _ _ _ _ _ _ _ _ _ _ _ _ _ _ _ _ _ _ _ _ _ _ _ _ _ _ C2 (cell_of_row w2 _ 0 _ _ _ hp) (fun W lv mv hb p1 p2 => HM.out _ _ n1 o1 o3 W lv mv (A2.trans (hb.mono A2.size)) p1 p2)) ?_
  rintro a3 w3 ⟨v1, u18, u19, u20, u21, u22, u23, u24, u25, u26, u27, rfl, g1, B3⟩
  simp only [Exit.then]
  have A3 : Below w.heap.size w w3 := A2.trans (B3.mono A2.size)
  have C3 := (B3.block _ (lt_of_get C2)).trans C2
  have P3 := (B3.block _ (lt_of_get hp)).trans hp
  go_upto_region 3 with fail
  refine wp_take (tl_3 hc (l := bareW q) (r := saysW q 0) (k := 0) _ _ _ _ _ _ _ _ _ _ _ _ _ _ _ _ _ _ _ _ _ _ _ _ _ _ _ _ _ _ _ _ _ _ _ _ _ _ _ _ _ _ _ _ _ _ _ _ _ _ _ _ _ _ _ _ _ _ _ _ _ _ _ _ _ _ _ _ _ _ _ _ _ _ _ _ _ _ _ _ _ _ _ _ _ _ _ _ _ C3 (cell_of_row w3 _ 1 _ _ _ P3) (fun W lv mv hb p1 p2 => HM.out _ _ n2 o4 o6 W lv mv (A3.trans (hb.mono A3.size)) p1 p2)) ?_
  rintro a4 w4 ⟨v2, u28, u29, u30, u31, u32, u33, u34, u35, u36, u37, rfl, g2, B4⟩
  simp only [Exit.then]
  have A4 : Below w.heap.size w w4 := A3.trans (B4.mono A3.size)
  have C4 := (B4.block _ (lt_of_get C3)).trans C3
  have P4 := (B4.block _ (lt_of_get P3)).trans P3
  have G1 := (B4.block _ (lt_of_get g1)).trans g1
  go_upto_region 4 with fail
  refine wp_take (tl_4 hc (pb := w1.heap.size) (r := (true, 1)) (k := 0) _ _ _ _ _ _ _ _ _ _ _ _ _ _ _ _ _ _ _ _ _ _ _ _ _ _ _ _ _ _ _ _ _ _ _ _ _ _ _ _ _ _ _ _ _ _ _ _ _ _ _ _ _ _ _ _ _ _ _ _ _ _ _ _ _ _ _ _ _ _ _ _ _ _ _ _ _ _ _ _ _ _ _ _ _ _ _ _ _ C4 (fun W lv mv hb p1 p2 => HM.out tlW _ (by decide) tl_read (tl_mean _) W lv mv (A4.trans (hb.mono A4.size)) p1 p2)) ?_
  rintro a5 w5 ⟨v3, u38, u39, u40, u41, u42, u43, u44, u45, rfl, g3, B5⟩
  simp only [Exit.then]
  have A5 : Below w.heap.size w w5 := A4.trans (B5.mono A4.size)
  have C5 := (B5.block _ (lt_of_get C4)).trans C4
  have P5 := (B5.block _ (lt_of_get P4)).trans P4
  have H1 := (B5.block _ (lt_of_get G1)).trans G1
  have H2 := (B5.block _ (lt_of_get g2)).trans g2
  go_upto_region 5 with fail
  refine wp_take (tl_5 hc (pb := w1.heap.size) (r := (false, 0)) (k := 0) _ _ _ _ _ _ _ _ _ _ _ _ _ _ _ _ _ _ _ _ _ _ _ _ _ _ _ _ _ _ _ _ _ _ _ _ _ _ _ _ _ _ _ _ _ _ _ _ _ _ _ _ _ _ _ _ _ _ _ _ _ _ _ _ _ _ _ _ _ _ _ _ _ _ _ _ _ _ _ _ _ _ _ _ _ _ _ _ _ C5 (fun W lv mv hb p1 p2 => HM.out [] _ (by decide) (by decide +kernel) rfl W lv mv (A5.trans (hb.mono A5.size)) p1 p2)) ?_
  rintro a6 w6 ⟨v4, u46, u47, u48, u49, u50, u51, u52, u53, rfl, g4, B6⟩
  simp only [Exit.then]
  have A6 : Below w.heap.size w w6 := A5.trans (B6.mono A5.size)
  have P6 := (B6.block _ (lt_of_get P5)).trans P5
  have I1 := (B6.block _ (lt_of_get H1)).trans H1
  have I2 := (B6.block _ (lt_of_get H2)).trans H2
  have I3 := (B6.block _ (lt_of_get g3)).trans g3
  obtain ⟨a0, a1, a2, _, _, _⟩ := new_cells I1
  obtain ⟨b0, b1, b2, _, _, _⟩ := new_cells I2
  obtain ⟨d0, d1, d2, _, _, _⟩ := new_cells I3
  obtain ⟨e0, e1, e2, _, _, _⟩ := new_cells g4
  have p2 : w6.cell? ⟨w1.heap.size, 2, none⟩ = some (.bool (saysW q 0).1) := cell_of_row w6 _ 2 _ _ _ P6
  have p3 : w6.cell? ⟨w1.heap.size, 3, none⟩ = some (.int .i64 ((saysW q 0).2 : Nat)) := cell_of_row w6 _ 3 _ _ _ P6
  have p4 : w6.cell? ⟨w1.heap.size, 4, none⟩ = some (.int .i64 0) := cell_of_row w6 _ 4 _ _ _ P6
  have HA : Hid _ := A6
  clear HM hq hql o1 o3 o4 o6 n1 n2 B1 C1 B2 hp A2 C2 g1 B3 A3 C3 P3 g2 B4 A4 C4 P4 G1 g3 B5 A5 C5 P5 H1 H2 g4 B6 A6 P6 I1 I2 I3
  generalize (saysW q 0).1 = s1 at *
  generalize (saysW q 0).2 = s2 at *
  go_wp2_with fail
  go_ret
  exact ⟨rfl, HA.out⟩
end Go.Proofs.YtfkdailfcmnjlaaGreatDoor
