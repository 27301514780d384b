/-
  A row of items turned about. Items that are asked for. Rewriting items: what lies in memory meanwhile. Rewriting items: one more let, one more item kept.
-/
import Derived.Test.YtfkdailfcmnjlaaGreatDoorCompiles01
import Derived.Test.YtfkdailfcmnjlaaGreatDoorCompiles02
import Derived.Test.YtfkdailfcmnjlaaGreatDoorCompiles04
import Derived.Test.YtfkdailfcmnjlaaGreatDoorCompiles05
import Derived.Test.YtfkdailfcmnjlaaGreatDoorCompiles06
import Derived.Test.YtfkdailfcmnjlaaGreatDoorCompiles07
import Derived.Test.YtfkdailfcmnjlaaGreatDoorCompiles08
import Derived.Test.YtfkdailfcmnjlaaGreatDoorCompiles09
import Derived.Test.YtfkdailfcmnjlaaGreatDoorCompiles10
import Derived.Test.YtfkdailfcmnjlaaGreatDoorCompiles11
import Derived.Test.YtfkdailfcmnjlaaGreatDoorCompiles12
import Derived.Test.YtfkdailfcmnjlaaGreatDoorCompiles13
import Derived.Test.YtfkdailfcmnjlaaGreatDoorCompiles14
import Derived.Test.YtfkdailfcmnjlaaGreatDoorCompiles15
import Derived.Test.YtfkdailfcmnjlaaGreatDoorCompiles16
import Derived.Test.YtfkdailfcmnjlaaGreatDoorCompiles17
import Derived.Test.YtfkdailfcmnjlaaGreatDoorCompiles18
import Derived.Test.YtfkdailfcmnjlaaGreatDoorCompiles19
import Derived.Test.YtfkdailfcmnjlaaGreatDoorCompiles20
import Derived.Test.YtfkdailfcmnjlaaGreatDoorCompiles21
import Derived.Test.YtfkdailfcmnjlaaGreatDoorCompiles22
import Derived.Test.YtfkdailfcmnjlaaGreatDoorCompiles23
import Derived.Test.YtfkdailfcmnjlaaGreatDoorCompiles24
import Derived.Test.YtfkdailfcmnjlaaGreatDoorCompiles25
import Derived.Test.YtfkdailfcmnjlaaGreatDoorCompiles26
import Derived.Test.YtfkdailfcmnjlaaGreatDoorCompiles27
import Derived.Test.YtfkdailfcmnjlaaGreatDoorCompiles28
import Derived.Test.YtfkdailfcmnjlaaGreatDoorCompiles29
import Derived.Test.YtfkdailfcmnjlaaGreatDoorCompiles30
import Derived.Test.YtfkdailfcmnjlaaGreatDoorCompiles31
import Derived.Test.YtfkdailfcmnjlaaGreatDoorCompiles32
import Derived.Test.YtfkdailfcmnjlaaGreatDoorCompiles34
import Derived.Test.YtfkdailfcmnjlaaGreatDoorCompiles35
import Derived.Test.YtfkdailfcmnjlaaGreatDoorCompiles37
import Derived.Test.YtfkdailfcmnjlaaGreatDoorCompiles38
import Derived.Test.YtfkdailfcmnjlaaGreatDoorCompiles39
import Derived.Test.YtfkdailfcmnjlaaGreatDoorCompiles40
import Derived.Test.YtfkdailfcmnjlaaGreatDoorCompiles41
import Derived.Test.YtfkdailfcmnjlaaGreatDoorCompiles42
import Derived.Test.YtfkdailfcmnjlaaGreatDoorCompiles43
import Derived.Test.YtfkdailfcmnjlaaGreatDoorCompiles46
import Derived.Test.YtfkdailfcmnjlaaGreatDoorCompiles47
import Derived.Test.YtfkdailfcmnjlaaGreatDoorCompiles48
import Derived.Test.YtfkdailfcmnjlaaGreatDoorCompiles49
import Derived.Test.YtfkdailfcmnjlaaGreatDoorCompiles50
import Derived.Test.YtfkdailfcmnjlaaGreatDoorLays
import Derived.Test.YtfkdailfcmnjlaaGreatDoorLays2
import Derived.Shelf.SlicesQ.Reverse
import Derived.Ground.SlgnProg
import Derived.WalkKit
import Derived.Deep.QuietTactic
import Derived.BigQuiet
import Derived.WalkSpells
import GoSem.Op.String
import Derived.Deep.AppendLies
import Derived.Deep.RegionHeld3
import Derived.Deep.DrawnRows
import Derived.Deep.RegionHeldLaw
import Derived.Deep.RegionLaw
import Derived.Lib.ParseIntBCases
import Derived.Deep.OwnRows
import Derived.Lib.LaidTab
import Derived.Lib.AppendIntMem
import Derived.Shelf.Strings.Builder1
import Derived.Laws.CopyOwn
import Derived.Deep.DeepCutAuto
import Derived.WalkSmall
import Derived.Lib.AppendZerosOnto
import Derived.Deep.Upon
import Derived.Deep.MidRow
set_option linter.unusedVariables false
set_option linter.unusedSimpArgs false
namespace Go.Proofs
open Go.Shelf Go.Lib
shelf_lay_g SlLaysE0.n35 Slgn 35 at Tryz 178 as Tryz.reverseItem
end Go.Proofs
namespace Go.Proofs.YtfkdailfcmnjlaaGreatDoor
open Go Go.RowKit
open Go.Sort (HoldsK putRowK flatK size_flatK get_flatK holdsK_putRowK holdsK_ahead)
set_option maxRecDepth 100000

instance instYt : Inhabited Yt := ⟨noY⟩
theorem arr_at (ys : List Yt) {i : Nat} (h : i < ys.length) : ys.toArray[i]! = ys.getD i noY := by
  rw [getElem!_pos ys.toArray i (by simpa using h), List.getD_eq_getElem?_getD, List.getElem?_eq_getElem h]; simp
theorem icell_len (y : Yt) : (icell y).length = 10 := rfl
theorem icell_one (y : Yt) : ∀ v ∈ icell y, v.oneCell' = true := fun v hv => by
  unfold icell at hv
  simp only [List.mem_cons, List.not_mem_nil, or_false] at hv
  rcases hv with rfl | rfl | rfl | rfl | rfl | rfl | rfl | rfl | rfl | rfl <;> rfl
theorem row_holds {w : World} {base g cap : Nat} {ys : List Yt} (h : w.ownsRow base 163 10 (.slice (some ⟨g, 0, none⟩) ys.length cap) ys.length (iCells ys)) : HoldsK icell 10 w g 0 ys.toArray := by
  intro t ht
  rw [size_flatK] at ht
  simp only [List.size_toArray] at ht
  have hth := own_there h (o := 0) (m := ys.length * 10) (by omega) t ht
  rw [Nat.zero_add] at hth ⊢
  refine ⟨?_, hth.2⟩
  obtain ⟨a, cap', e, hc⟩ := row_cells h
  simp only [Value.slice.injEq, true_and] at e
  obtain ⟨rfl, rfl⟩ := e
  have hd : t / 10 < ys.length := by omega
  obtain ⟨g', e, _, hj⟩ := hc (t / 10) hd
  simp only [Option.some.injEq, Addr.mk.injEq, and_true] at e
  subst e
  have := hj (t % 10) (Nat.mod_lt _ (by decide))
  rw [Nat.div_add_mod' t 10] at this
  rw [this, get_flatK _ _ _ _ (by simpa using ht), arr_at ys hd]
  have hl : t % 10 < (icell (ys.getD (t / 10) noY)).length := by rw [icell_len]; exact Nat.mod_lt _ (by decide)
  show (icell (ys.getD (t / 10) noY))[t % 10]? = some ((icell (ys.getD (t / 10) noY))[t % 10]!)
  rw [List.getElem?_eq_getElem hl, getElem!_pos (icell (ys.getD (t / 10) noY)) (t % 10) hl]
theorem holds_row {w : World} {g cap : Nat} {ys : List Yt} (h : HoldsK icell 10 w g 0 ys.toArray) : RowF w (.slice (some ⟨g, 0, none⟩) ys.length cap) ys := by
  refine ⟨_, cap, rfl, fun k hk => ⟨g, rfl, ?_, fun j hj => ?_⟩⟩
  · have := (h.cell (i := k) (c := 0) (by simpa using hk) (by decide)).1
    exact World.block_lt_of_cell? w _ this
  · have := (h.cell (i := k) (c := j) (by simpa using hk) hj).1
    rw [Nat.zero_add, arr_at ys hk] at this
    rw [this, List.getElem?_eq_getElem (by rw [icell_len]; exact hj), getElem!_pos _ _ (by rw [icell_len]; exact hj)]
theorem only_putRow {w : World} {n g : Nat} {d : Array Yt} : Only (fun b => b = g) w (putRowK icell 10 (Sort.ahead w n) g 0 d) := by
  refine ⟨rfl, rfl, rfl, by unfold putRowK; rw [Sort.size_putRow]; exact Nat.le_refl _, fun i hi hn => ?_⟩
  unfold putRowK Sort.putRow Sort.mapBlock Sort.ahead
  simp only [Array.getElem?_modify]
  rw [if_neg (fun e => hn e.symm)]
theorem reverse_any {w : World} {base : Nat} {v : Value} {ys : List Yt} (h : w.ownsRow base 163 10 v ys.length (iCells ys)) (hl : ys.length ≤ 1001) :
    Calls Tryz.prog 178 #[v] w fun e w' => e = .returned (.tuple #[]) ∧ Only (fun g => v.ownBlock = some g) w w' ∧ RowF w' v ys.reverse := by
  obtain ⟨a, cap, ev⟩ := rowSl h
  subst ev
  by_cases h0 : ys.length = 0
  · have : ys = [] := List.eq_nil_of_length_eq_zero h0
    subst this
    refine (AnyQ.slices_Reverse_empty Tryz.reverseItem a cap w).mono ?_
    rintro e w' ⟨rfl, rfl⟩
    exact ⟨rfl, Only.refl _ _, RowF.of_row h⟩
  · obtain ⟨g, c2, ev, _, _⟩ := World.ownsRow.form h (by omega)
    simp only [Value.slice.injEq, true_and] at ev
    obtain ⟨rfl, rfl⟩ := ev
    have H := row_holds h
    refine (AnyQ.slices_Reverse Tryz.reverseItem 10 Tryz.isAgg163 Tryz.sizeOf163 icell icell_len icell_one g 0 cap ys.toArray w H (by simp; omega)).mono ?_
    rintro e w' ⟨rfl, n, rfl⟩
    refine ⟨rfl, (only_putRow (w := w) (n := n) (g := g)).weak (fun i _ hi => by rw [hi]; rfl), ?_⟩
    have h2 := holdsK_putRowK icell 10 (Sort.ahead w n) g 0 ys.toArray ys.toArray.reverse (holdsK_ahead icell 10 w n g 0 _ H) (by simp)
    have e : ys.toArray.reverse = ys.reverse.toArray := by simp
    rw [e] at h2 ⊢
    have h3 := holds_row (cap := cap) h2
    rw [List.length_reverse] at h3
    obtain ⟨a, c, e1, e2⟩ := h3
    exact ⟨a, c, e1, e2⟩
end Go.Proofs.YtfkdailfcmnjlaaGreatDoor

namespace Go.Proofs.YtfkdailfcmnjlaaGreatDoor
open Go Go.RowKit
set_option maxRecDepth 100000
attribute [local go_sem ↓] Go.wp_at_zero Go.wp_at_succ

theorem ItsF.turn {F : Nat → Prop} {d : Nat} {w : World} {xs : List ItT} {ys : List Yt} (h : ItsF F d w xs ys) : ItsF F d w xs.reverse ys.reverse := by
  have hl := h.1
  refine ⟨by simp [hl], fun j hj => ?_⟩
  rw [List.length_reverse] at hj
  have e : ∀ {α : Type} (l : List α) (d : α) (j : Nat), j < l.length → l.reverse.getD j d = l.getD (l.length - 1 - j) d := fun l d j hj => by
    rw [List.getD_eq_getElem?_getD, List.getD_eq_getElem?_getD, List.getElem?_reverse hj]
  rw [e _ _ _ hj, e _ _ _ (by omega), hl]
  exact h.2 _ (by omega)
/-- What the loop keeps. -/
structure AskI (F : Nat → Prop) (d : Nat) (w wr : World) (v : Value) (ks : List ItT) (zs : List Yt) (nm : List Bool) : Prop where
  row : wr.ownsRow (w.heap.size + 1) 163 10 v zs.length (iCells zs)
  bel : Below w.heap.size w wr
  its : ItsF F d w ks zs
  nms : NmAt wr w.heap.size nm
  big : w.heap.size + 1 ≤ wr.heap.size
theorem AskI.noted {F : Nat → Prop} {d : Nat} {w wr w1 : World} {v : Value} {ks : List ItT} {zs : List Yt} {nm nm' : List Bool} (h : AskI F d w wr v ks zs nm) (ho : Only (fun g => g = w.heap.size) wr w1) (hn : NmAt w1 w.heap.size nm') : AskI F d w w1 v ks zs nm' :=
  ⟨ownsRow_of_block h.row (fun k hk => ho.block k (h.row.lt k hk).2 (fun e => by have := (h.row.lt k hk).1; omega)), h.bel.trans (ho.below h.bel.size (fun k _ hk => by rw [hk]; exact Nat.le_refl _)), h.its, hn, Nat.le_trans h.big ho.size⟩
theorem AskI.next {F : Nat → Prop} {d : Nat} {w w1 w5 : World} {v : Value} {ks : List ItT} {zs : List Yt} {nm : List Bool} {x : ItT} {y : Yt} {gg cap : Nat} {o : Obj} (h : AskI F d w w1 v ks zs nm) (hx : ItF F d w x y)
    (hown : w5.ownsRow (w.heap.size + 1) 163 10 (.slice (some ⟨gg, 0, none⟩) (zs.length + 1) cap) (zs.length + 1) (iCells zs ++ icell y)) (hgrow : (w1.alloc o).grownBy w5 v.ownBlock) : AskI F d w w5 (.slice (some ⟨gg, 0, none⟩) (zs.length + 1) cap) (ks ++ [x]) (zs ++ [y]) nm := by
  have ho : Only (fun g => v.ownBlock = some g) w1 w5 := ((Only.refl (fun g => v.ownBlock = some g) w1).alloc _).grown hgrow (fun k hk => .inl hk)
  refine ⟨?_, h.bel.trans (ho.below h.bel.size (fun g _ hg => by have := (h.row.lt g hg).1; omega)), h.its.snoc hx, ⟨h.nms.1, fun j hj => ?_⟩, Nat.le_trans h.big ho.size⟩
  · rw [iCells_snoc, List.length_append]
    exact hown
  · have hb := ho.block w.heap.size (by have := h.big; omega) (fun e => by have := (h.row.lt _ e).1; omega)
    exact ⟨by rw [World.cell?_of_block (w := w1) (a := ⟨w.heap.size, j, none⟩) hb]; exact (h.nms.2 j hj).1, by rw [World.frozen?_of_block (w := w1) (a := ⟨w.heap.size, j, none⟩) hb]; exact (h.nms.2 j hj).2⟩
theorem frz {w : World} {b j : Nat} {cs : Array Value} {t : TypeId} (h : w.heap[b]? = some (.cells cs t (0, 0))) : w.frozen? ⟨b, j, none⟩ = false := by simp [World.frozen?, h]
theorem names_new (w : World) : NmAt (w.alloc (.cells #[.bool false, .bool false, .bool false, .bool false, .bool false, .bool false, .bool false, .bool false, .bool false, .bool false] 275)) w.heap.size noNames := by
  have hb := heap_alloc_new w (.cells #[.bool false, .bool false, .bool false, .bool false, .bool false, .bool false, .bool false, .bool false, .bool false, .bool false] 275)
  refine ⟨rfl, fun j hj => ⟨?_, frz hb⟩⟩
  rw [cell_of_row _ _ j _ _ _ hb]
  have : j = 0 ∨ j = 1 ∨ j = 2 ∨ j = 3 ∨ j = 4 ∨ j = 5 ∨ j = 6 ∨ j = 7 ∨ j = 8 ∨ j = 9 := by omega
  rcases this with rfl | rfl | rfl | rfl | rfl | rfl | rfl | rfl | rfl | rfl <;> rfl
set_option maxHeartbeats 8000000 in
theorem asked_any {F : Nat → Prop} {d : Nat} {xs : List ItT} {ys : List Yt} {v : Value} {w : World} (hv : RowF w v ys) (hI : ItsF F d w xs ys) (hl : ys.length ≤ 1001) (hW : ∀ j, j < ys.length → WfT d (xs.getD j noIt).c ∧ (∃ lt : List Nat, lt.length = 10 ∧ tyTr lt d (xs.getD j noIt).c ≠ 0) ∧ ((xs.getD j noIt).kind = 11 → (xs.getD j noIt).wh < 10)) :
    Calls Tryz.prog 131 #[v] w fun e w' => ∃ v' ys', e = .returned v' ∧ RowF w' v' ys' ∧ ItsF F d w (askT d xs).1 ys' ∧ Below w.heap.size w w' ∧ ys'.length ≤ ys.length := by
  obtain ⟨a, cap, rfl, hq⟩ := hv
  have HQ : Hid _ := hq
  have HW : Hid _ := hW
  have HI : Hid (ItsF F d w xs ys) := hI
  have H0 : Hid (AskI F d w (w.alloc (.cells #[.bool false, .bool false, .bool false, .bool false, .bool false, .bool false, .bool false, .bool false, .bool false, .bool false] 275)) (.slice none 0 0) (askT d (xs.drop ys.length)).1.reverse [] (askT d (xs.drop ys.length)).2) := by
    show AskI _ _ _ _ _ _ _ _
    rw [List.drop_of_length_le (by rw [hI.1]; exact Nat.le_refl _)]
    exact ⟨World.ownsRow_nil _ _ _ _, (Below.refl _ _).alloc (Nat.le_refl _) _, ItsF.nil, names_new w, by simp⟩
  obtain ⟨i0, hi, hz0, hz1, hz2⟩ := info_parts info_pitem
  clear hq hI hW
  go_enter Tryz.func131, Tryz.ntmps131
  go_wp2_with fail
  go_loopw [4, 5] (fun vv iv wr => ∃ (k : Nat) (zs : List Yt), k ≤ ys.length ∧ iv = .int .i64 ((k : Int) - 1) ∧ zs.length ≤ ys.length - k ∧ Hid (AskI F d w wr vv (askT d (xs.drop k)).1.reverse zs (askT d (xs.drop k)).2)) (fun _ iv _ => (intOf iv + 1).toNat)
  case atStart => exact ⟨ys.length, [], Nat.le_refl _, by go_num, by simp, H0.out⟩
  case round =>
    obtain ⟨k, zs, hkk, rfl, hzk, HX⟩ := hrel
    cases k with
    | succ m =>
      have hlt : m < ys.length := by omega
      have em : ((m + 1 : Nat) : Int) - 1 = (m : Int) := by omega
      rw [em]
      clear em
      have hX := HX.out
      obtain ⟨g, rfl, hgl, hcells⟩ := HQ.out m hlt
      have hIt := HI.out.2 m hlt
      obtain ⟨w1', ⟨lt, hl10, hty⟩, hw10⟩ := HW.out m hlt
      have hE : askT d (xs.drop m) = if (xs.getD m noIt).kind = 11 ∧ (askT d (xs.drop (m + 1))).2.getD (xs.getD m noIt).wh false = false then askT d (xs.drop (m + 1)) else ((xs.getD m noIt) :: (askT d (xs.drop (m + 1))).1, noteT d (xs.getD m noIt).c (askT d (xs.drop (m + 1))).2) := by
        rw [drop_at (by rw [HI.out.1]; exact hlt) noIt, askT]
      generalize askT d (xs.drop (m + 1)) = ar at *
      generalize xs.getD m noIt = x at *
      generalize ys.getD m noY = y at *
      obtain ⟨t0, u0, b, wh⟩ := y
      have HIT : Hid _ := hIt
      have hkd := hIt.kd
      have hwh := hIt.wh
      simp only [] at hkd hwh
      obtain ⟨va, vcap, ev⟩ := rowSl hX.row
      obtain rfl := ev
      have hbw := hX.bel
      have hct : ∀ j, j < 10 → wr.cell? ⟨g, m * 10 + j, none⟩ = (icell (t0, u0, b, wh))[j]? := fun j hj => by
        rw [hbw.cell (p := ⟨g, m * 10 + j, none⟩) hgl]; exact hcells j hj
      have c0 : wr.cell? ⟨g, m * 10, none⟩ = some (.int .i64 (kindOf t0)) := hct 0 (by omega)
      have c8 : wr.cell? ⟨g, m * 10 + 8, none⟩ = some (.int .i64 wh) := hct 8 (by omega)
      have c9 : wr.cell? ⟨g, m * 10 + 9, none⟩ = some (.pointer (some ⟨b, 0, none⟩)) := hct 9 (by omega)
      have hmb : (0 : Int) ≤ (m : Int) ∧ (m : Int) < (ys.length : Int) := by omega
      have hm0 : (0 : Int) ≤ (m : Int) := by omega
      have HTN : Hid (TrF (fun g => g = w.heap.size) d wr b x.c) := (hIt.tr.more (fun g hg e => by omega)).below hbw
      have W1 := notes hl10 d w1' hty HTN.out hX.nms
      have HCX : Hid _ := hX
      have HE : Hid _ := hE
      have HCT : Hid (∀ j, j < 10 → wr.cell? ⟨g, m * 10 + j, none⟩ = (icell (t0, u0, b, wh))[j]?) := hct
      have HGL : Hid (g < w.heap.size) := hgl
      clear hct hcells hX hIt hgl hE w1' hty hbw
      subst hwh
      by_cases h11 : x.kind = 11
      · have i11 : ((kindOf t0 : Int) == 11) = true := by rw [hkd, h11]; rfl
        have h10 := hw10 h11
        have n8 := (HCX.out.nms.2 x.wh h10).1
        have hwb : (0 : Int) ≤ (x.wh : Int) ∧ (x.wh : Int) < 10 := by omega
        cases hnb : ar.2.getD x.wh false
        · have HR2 : Hid (askT d (xs.drop m) = ar) := by show _ = _; rw [HE.out, if_pos ⟨h11, hnb⟩]
          rw [hnb] at n8
          clear hkd h11 hw10 HE W1
          go_wp2_with fail
          go_roundw
          case rel => exact ⟨m, zs, by omega, by go_num, by omega, by rw [HR2.out]; exact HCX.out⟩
          case measure => simp [intOf]
        · have HR2 : Hid (askT d (xs.drop m) = (x :: ar.1, noteT d x.c ar.2)) := by show _ = _; rw [HE.out, if_neg (fun e => by rw [hnb] at e; simp at e)]
          rw [hnb] at n8
          clear hkd h11 hw10 HE
          go_wp2_with fail
          refine W1.mono ?_
          rintro e w1 ⟨rfl, ho1, hn1⟩
          have HA1 : Hid _ := HCX.out.noted ho1 hn1
          have HOW : Hid (w1.ownsRow (w.heap.size + 1) 163 10 (.slice va zs.length vcap) zs.length (iCells zs)) := HA1.out.row
          have hws : w.heap.size + 1 ≤ w1.heap.size := HA1.out.big
          have hdt : ∀ j, j < 10 → w1.cell? ⟨g, m * 10 + j, none⟩ = (icell (t0, u0, b, (x.wh : Int)))[j]? := fun j hj => by
            rw [World.cell?_of_block (w := wr) (a := ⟨g, m * 10 + j, none⟩) (ho1.block g (by have := HCX.out.bel.size; have := HGL.out; omega) (fun e => by have := HGL.out; omega))]; exact HCT.out j hj
          have d0 : w1.cell? ⟨g, m * 10, none⟩ = some (.int .i64 (kindOf t0)) := hdt 0 (by omega)
          have d1 : w1.cell? ⟨g, m * 10 + 1, none⟩ = some (.int .i64 t0.pl) := hdt 1 (by omega)
          have d2 : w1.cell? ⟨g, m * 10 + 2, none⟩ = some (.int .i64 (nmOf t0)) := hdt 2 (by omega)
          have d3 : w1.cell? ⟨g, m * 10 + 3, none⟩ = some (S (ownOf t0)) := hdt 3 (by omega)
          have d4 : w1.cell? ⟨g, m * 10 + 4, none⟩ = some (.int .i64 (kindOf u0)) := hdt 4 (by omega)
          have d5 : w1.cell? ⟨g, m * 10 + 5, none⟩ = some (.int .i64 u0.pl) := hdt 5 (by omega)
          have d6 : w1.cell? ⟨g, m * 10 + 6, none⟩ = some (.int .i64 (nmOf u0)) := hdt 6 (by omega)
          have d7 : w1.cell? ⟨g, m * 10 + 7, none⟩ = some (S (ownOf u0)) := hdt 7 (by omega)
          have d8 : w1.cell? ⟨g, m * 10 + 8, none⟩ = some (.int .i64 (x.wh : Nat)) := hdt 8 (by omega)
          have d9 : w1.cell? ⟨g, m * 10 + 9, none⟩ = some (.pointer (some ⟨b, 0, none⟩)) := hdt 9 (by omega)
          clear W1 ho1 hn1 hdt c0 c8 c9
          go_wp2_with (at_builtin; go_must (refine wpList_append_lies _ (by rfl) _ _ 84 (by rfl) (w.heap.size + 1) 163 i0 (.agg #[.int .i64 0, .int .i64 0, .int .i64 0, .string ⟨#[]⟩, .int .i64 0, .int .i64 0, .int .i64 0, .string ⟨#[]⟩, .int .i64 0, .pointer none]) 10 96 Tryz.underlying84 hi hz0 hz1 hz2 (by rfl) (by decide) _ _ _ (by rfl) (HOW.out.alloc _) ⟨w1.heap.size, 0, none⟩ 1 1 [.int .i64 (kindOf t0), .int .i64 t0.pl, .int .i64 (nmOf t0), S (ownOf t0), .int .i64 (kindOf u0), .int .i64 u0.pl, .int .i64 (nmOf u0), S (ownOf u0), .int .i64 (x.wh : Nat), .pointer (some ⟨b, 0, none⟩)] (by rfl) (by rfl) (World.news_of_block (heap_alloc_new w1 _)) (fun x hx => by simp at hx; rcases hx with rfl | rfl | rfl | rfl | rfl | rfl | rfl | rfl | rfl | rfl <;> rfl) (by decide) (by unfold maxLen; omega) (by omega) (by simp; omega) _ rfl ?_); intro gg cap2 w5 hown3 hgrow hat hlt3; have HN : Hid (AskI F d w w5 (.slice (some ⟨gg, 0, none⟩) (zs.length + 1) cap2) (ar.1.reverse ++ [x]) (zs ++ [(t0, u0, b, (x.wh : Int))]) (noteT d x.c ar.2)) := HA1.out.next HIT.out hown3 hgrow; clear hown3 hgrow hat hlt3)
          go_roundw
          case rel => exact ⟨m, zs ++ [(t0, u0, b, (x.wh : Int))], by omega, by go_num, by simp; omega, by rw [HR2.out]; simp only [List.reverse_cons]; exact HN.out⟩
          case measure => simp [intOf]
      · have i11 : ((kindOf t0 : Int) == 11) = false := by rw [hkd]; simp; omega
        have HR2 : Hid (askT d (xs.drop m) = (x :: ar.1, noteT d x.c ar.2)) := by show _ = _; rw [HE.out, if_neg (fun e => h11 e.1)]
        clear hkd h11 hw10 HE
        go_wp2_with fail
        refine W1.mono ?_
        rintro e w1 ⟨rfl, ho1, hn1⟩
        have HA1 : Hid _ := HCX.out.noted ho1 hn1
        have HOW : Hid (w1.ownsRow (w.heap.size + 1) 163 10 (.slice va zs.length vcap) zs.length (iCells zs)) := HA1.out.row
        have hws : w.heap.size + 1 ≤ w1.heap.size := HA1.out.big
        have hdt : ∀ j, j < 10 → w1.cell? ⟨g, m * 10 + j, none⟩ = (icell (t0, u0, b, (x.wh : Int)))[j]? := fun j hj => by
          rw [World.cell?_of_block (w := wr) (a := ⟨g, m * 10 + j, none⟩) (ho1.block g (by have := HCX.out.bel.size; have := HGL.out; omega) (fun e => by have := HGL.out; omega))]; exact HCT.out j hj
        have d0 : w1.cell? ⟨g, m * 10, none⟩ = some (.int .i64 (kindOf t0)) := hdt 0 (by omega)
        have d1 : w1.cell? ⟨g, m * 10 + 1, none⟩ = some (.int .i64 t0.pl) := hdt 1 (by omega)
        have d2 : w1.cell? ⟨g, m * 10 + 2, none⟩ = some (.int .i64 (nmOf t0)) := hdt 2 (by omega)
        have d3 : w1.cell? ⟨g, m * 10 + 3, none⟩ = some (S (ownOf t0)) := hdt 3 (by omega)
        have d4 : w1.cell? ⟨g, m * 10 + 4, none⟩ = some (.int .i64 (kindOf u0)) := hdt 4 (by omega)
        have d5 : w1.cell? ⟨g, m * 10 + 5, none⟩ = some (.int .i64 u0.pl) := hdt 5 (by omega)
        have d6 : w1.cell? ⟨g, m * 10 + 6, none⟩ = some (.int .i64 (nmOf u0)) := hdt 6 (by omega)
        have d7 : w1.cell? ⟨g, m * 10 + 7, none⟩ = some (S (ownOf u0)) := hdt 7 (by omega)
        have d8 : w1.cell? ⟨g, m * 10 + 8, none⟩ = some (.int .i64 (x.wh : Nat)) := hdt 8 (by omega)
        have d9 : w1.cell? ⟨g, m * 10 + 9, none⟩ = some (.pointer (some ⟨b, 0, none⟩)) := hdt 9 (by omega)
        clear W1 ho1 hn1 hdt c0 c8 c9
        go_wp2_with (at_builtin; go_must (refine wpList_append_lies _ (by rfl) _ _ 84 (by rfl) (w.heap.size + 1) 163 i0 (.agg #[.int .i64 0, .int .i64 0, .int .i64 0, .string ⟨#[]⟩, .int .i64 0, .int .i64 0, .int .i64 0, .string ⟨#[]⟩, .int .i64 0, .pointer none]) 10 96 Tryz.underlying84 hi hz0 hz1 hz2 (by rfl) (by decide) _ _ _ (by rfl) (HOW.out.alloc _) ⟨w1.heap.size, 0, none⟩ 1 1 [.int .i64 (kindOf t0), .int .i64 t0.pl, .int .i64 (nmOf t0), S (ownOf t0), .int .i64 (kindOf u0), .int .i64 u0.pl, .int .i64 (nmOf u0), S (ownOf u0), .int .i64 (x.wh : Nat), .pointer (some ⟨b, 0, none⟩)] (by rfl) (by rfl) (World.news_of_block (heap_alloc_new w1 _)) (fun x hx => by simp at hx; rcases hx with rfl | rfl | rfl | rfl | rfl | rfl | rfl | rfl | rfl | rfl <;> rfl) (by decide) (by unfold maxLen; omega) (by omega) (by simp; omega) _ rfl ?_); intro gg cap2 w5 hown3 hgrow hat hlt3; have HN : Hid (AskI F d w w5 (.slice (some ⟨gg, 0, none⟩) (zs.length + 1) cap2) (ar.1.reverse ++ [x]) (zs ++ [(t0, u0, b, (x.wh : Int))]) (noteT d x.c ar.2)) := HA1.out.next HIT.out hown3 hgrow; clear hown3 hgrow hat hlt3)
        go_roundw
        case rel => exact ⟨m, zs ++ [(t0, u0, b, (x.wh : Int))], by omega, by go_num, by simp; omega, by rw [HR2.out]; simp only [List.reverse_cons]; exact HN.out⟩
        case measure => simp [intOf]
    | zero =>
      have HR : Hid (AskI F d w wr u4 (askT d xs).1.reverse zs (askT d xs).2) := HX.out
      have W1 := reverse_any HR.out.row (by omega)
      clear HX
      go_wp2_with fail
      refine W1.mono ?_
      rintro e w1 ⟨rfl, ho, hr⟩
      have HF : Hid (RowF w1 u4 zs.reverse ∧ ItsF F d w (askT d xs).1 zs.reverse ∧ Below w.heap.size w w1) := by
        refine ⟨hr, ?_, HR.out.bel.trans (ho.below HR.out.bel.size (fun k _ hk => by have := (HR.out.row.lt k hk).1; omega))⟩
        have := HR.out.its.turn
        rwa [List.reverse_reverse] at this
      clear ho hr W1
      go_wp2_with fail
      go_ret
      exact ⟨_, zs.reverse, rfl, HF.out.1, HF.out.2.1, HF.out.2.2, by rw [List.length_reverse]; omega⟩
end Go.Proofs.YtfkdailfcmnjlaaGreatDoor

namespace Go.Proofs.YtfkdailfcmnjlaaGreatDoor
open Go Go.RowKit
set_option maxRecDepth 100000

/-- The blocks that trees stay off: the rewriter's own, its rows, and others. -/
def Gx (F : Nat → Prop) (rp : Nat) (lv kv : Value) (E : Nat → Prop) (g : Nat) : Prop := E g ∨ g = rp ∨ lv.ownBlock = some g ∨ kv.ownBlock = some g ∨ F g
/-- The rewriter, its lets and what is kept. -/
structure RwM (F : Nat → Prop) (n : Int) (d : Nat) (w wr : World) (lv kv : Value) (lets : List Tr) (bs : List Nat) (ks : List ItT) (zs : List Yt) (E : Nat → Prop) : Prop where
  blk : wr.heap[w.heap.size]? = some (.cells #[.int .i64 n, lv] 237 (0, 0))
  len : bs.length = lets.length
  lrow : wr.ownsRow (w.heap.size + 1) 161 1 lv lets.length (ptrs bs)
  krow : wr.ownsRow (w.heap.size + 1) 163 10 kv zs.length (iCells zs)
  bel : Below w.heap.size w wr
  ltr : ∀ j, j < lets.length → TrF (Gx F w.heap.size lv kv E) d wr (bs.getD j 0) (lets.getD j noTr)
  its : ItsF (Gx F w.heap.size lv kv E) d wr ks zs
  old : ∀ g, F g → g < w.heap.size
  off : ∀ g, E g → w.heap.size + 1 ≤ g ∧ g < wr.heap.size ∧ lv.ownBlock ≠ some g ∧ kv.ownBlock ≠ some g
variable {F : Nat → Prop} {n : Int} {d : Nat} {w wr w1 w5 : World} {lv kv : Value} {lets : List Tr} {bs : List Nat} {ks : List ItT} {zs : List Yt} {E : Nat → Prop}
theorem RwM.big (h : RwM F n d w wr lv kv lets bs ks zs E) : w.heap.size + 1 ≤ wr.heap.size := lt_of_get h.blk
theorem RwM.apart (h : RwM F n d w wr lv kv lets bs ks zs E) {g : Nat} (h1 : lv.ownBlock = some g) : kv.ownBlock ≠ some g := fun h2 => by
  obtain ⟨c1, e1⟩ := ownsRow_type h.lrow h1
  obtain ⟨c2, e2⟩ := ownsRow_type h.krow h2
  rw [e1] at e2
  simp at e2
theorem RwM.lt (h : RwM F n d w wr lv kv lets bs ks zs E) : ∀ g, Gx F w.heap.size lv kv E g → g < wr.heap.size := fun g hg => by
  have := h.big
  rcases hg with hg | hg | hg | hg | hg
  · exact (h.off g hg).2.1
  · omega
  · exact (h.lrow.lt g hg).2
  · exact (h.krow.lt g hg).2
  · have := h.old g hg; omega
theorem RwM.ge (h : RwM F n d w wr lv kv lets bs ks zs E) : ∀ g, Gx F w.heap.size lv kv E g → w.heap.size ≤ g ∨ F g := fun g hg => by
  rcases hg with hg | hg | hg | hg | hg
  · have := (h.off g hg).1; omega
  · omega
  · have := (h.lrow.lt g hg).1; omega
  · have := (h.krow.lt g hg).1; omega
  · exact .inr hg
/-- More memory, and one more block to stay off. -/
theorem RwM.below (h : RwM F n d w wr lv kv lets bs ks zs E) (hb : Below wr.heap.size wr w1) : RwM F n d w w1 lv kv lets bs ks zs E :=
  ⟨(hb.block _ (lt_of_get h.blk)).trans h.blk, h.len, ownsRow_below h.lrow hb, ownsRow_below h.krow hb, h.bel.trans (hb.mono h.bel.size), fun j hj => (h.ltr j hj).below hb, h.its.map (fun _ _ t => t.below hb), h.old, fun g hg => by
    obtain ⟨a, b, c⟩ := h.off g hg
    exact ⟨a, Nat.lt_of_lt_of_le b hb.size, c⟩⟩
theorem RwM.item (h : RwM F n d w wr lv kv lets bs ks zs (fun _ => False)) (o : Obj) : RwM F n d w (wr.alloc o) lv kv lets bs ks zs (fun g => g = wr.heap.size) := by
  have hb : Below wr.heap.size wr (wr.alloc o) := (Below.refl _ _).alloc (Nat.le_refl _) _
  have hg : ∀ g, g < wr.heap.size → Gx F w.heap.size lv kv (fun g => g = wr.heap.size) g → Gx F w.heap.size lv kv (fun _ => False) g := fun g hg hx => by
    rcases hx with hx | hx
    · omega
    · exact .inr hx
  refine ⟨(hb.block _ (lt_of_get h.blk)).trans h.blk, h.len, ownsRow_below h.lrow hb, ownsRow_below h.krow hb, h.bel.trans (hb.mono h.bel.size), fun j hj => ((h.ltr j hj).more hg).below hb, h.its.map (fun _ _ t => (t.more hg).below hb), h.old, fun g e => ?_⟩
  subst e
  exact ⟨h.big, by simp, fun e => by have := (h.lrow.lt _ e).2; omega, fun e => by have := (h.krow.lt _ e).2; omega⟩
/-- A block besides is written. -/
theorem RwM.only (h : RwM F n d w wr lv kv lets bs ks zs E) (ho : Only E wr w1) : RwM F n d w w1 lv kv lets bs ks zs E := by
  have hg : Only (Gx F w.heap.size lv kv E) wr w1 := ho.weak (fun i _ hi => .inl hi)
  refine ⟨(ho.block _ (lt_of_get h.blk) (fun e => by have := (h.off _ e).1; omega)).trans h.blk, h.len, ownsRow_of_block h.lrow (fun k hk => ho.block k (h.lrow.lt k hk).2 (fun e => (h.off _ e).2.2.1 hk)), ownsRow_of_block h.krow (fun k hk => ho.block k (h.krow.lt k hk).2 (fun e => (h.off _ e).2.2.2 hk)), h.bel.trans (ho.below h.bel.size (fun k _ hk => by have := (h.off k hk).1; omega)), fun j hj => (h.ltr j hj).only hg, h.its.map (fun _ _ t => t.only hg), h.old, fun g hg => ?_⟩
  obtain ⟨a, b, c⟩ := h.off g hg
  exact ⟨a, Nat.lt_of_lt_of_le b ho.size, c⟩
theorem RwM.free (h : RwM F n d w wr lv kv lets bs ks zs E) : RwM F n d w wr lv kv lets bs ks zs (fun _ => False) := by
  have hg : ∀ g, g < wr.heap.size → Gx F w.heap.size lv kv (fun _ => False) g → Gx F w.heap.size lv kv E g := fun g _ hx => by
    rcases hx with hx | hx
    · exact hx.elim
    · exact .inr hx
  exact ⟨h.blk, h.len, h.lrow, h.krow, h.bel, fun j hj => (h.ltr j hj).more hg, h.its.map (fun _ _ t => t.more hg), h.old, fun g e => e.elim⟩
/-- The rewriter, as conditions are rewritten. -/
theorem RwM.rw (h : RwM F n d w wr lv kv lets bs ks zs E) : RwAt (Gx F w.heap.size lv kv E) wr w.heap.size n lv (fun j => bs.getD j 0) d lets := by
  refine ⟨cell_of_row wr _ 0 _ _ _ h.blk, cell_of_row wr _ 1 _ _ _ h.blk, ?_, h.ltr⟩
  obtain ⟨va, vcap, ev⟩ := rowSl h.lrow
  subst ev
  refine ⟨va, vcap, rfl, fun j hj => ?_⟩
  obtain ⟨g, c2, ev, _, _⟩ := World.ownsRow.form h.lrow (by omega)
  simp only [Value.slice.injEq, true_and] at ev
  obtain ⟨rfl, rfl⟩ := ev
  refine ⟨g, rfl, fun hx => hx, ?_⟩
  rw [World.ownsRow.cellAt h.lrow j (by omega)]
  unfold ptrs
  show (bs.map fun b => (Value.pointer (some ⟨b, 0, none⟩)))[j]? = some (Value.pointer (some ⟨bs.getD j 0, 0, none⟩))
  rw [List.getElem?_map, List.getD_eq_getElem?_getD, List.getElem?_eq_getElem (by rw [h.len]; exact hj)]
  rfl
end Go.Proofs.YtfkdailfcmnjlaaGreatDoor

namespace Go.Proofs.YtfkdailfcmnjlaaGreatDoor
open Go Go.RowKit
set_option maxRecDepth 100000

variable {F : Nat → Prop} {n : Int} {d : Nat} {w wr w1 w5 : World} {lv kv : Value} {lets : List Tr} {bs : List Nat} {ks : List ItT} {zs : List Yt} {E : Nat → Prop}
/-- Trees where a row has grown. -/
theorem tr_grown {F G : Nat → Prop} {gg : Nat} (ho : Only F w1 w5) (hat : F gg ∨ w1.heap.size ≤ gg) (hG : ∀ g, G g → F g ∨ g = gg) {b : Nat} {t : Tr} (h : TrF F d w1 b t) : TrF G d w5 b t := by
  have h1 : TrF (fun g => F g ∨ g = gg) d w1 b t := h.more (fun g hg hx => by
    rcases hx with hx | hx
    · exact hx
    · subst hx
      rcases hat with h2 | h2
      · exact h2
      · omega)
  exact (h1.only (w' := w5) (ho.weak (fun i _ hi => .inl hi))).more (fun g _ hx => hG g hx)
/-- One more let. -/
theorem RwM.addLet (h : RwM F n d w w1 lv kv lets bs ks zs E) {o : Obj} {gg cap b' : Nat} {c : Tr} (ht : TrF (Gx F w.heap.size lv kv E) d w1 b' c)
    (hown : w5.ownsRow (w.heap.size + 1) 161 1 (.slice (some ⟨gg, 0, none⟩) (lets.length + 1) cap) (lets.length + 1) (ptrs bs ++ [.pointer (some ⟨b', 0, none⟩)])) (hgrow : (w1.alloc o).grownBy w5 lv.ownBlock) (hat : lv.ownBlock = some gg ∨ gg = w1.heap.size + 1) :
    RwM F n d w (w5.setCell ⟨w.heap.size, 1, none⟩ (.slice (some ⟨gg, 0, none⟩) (lets.length + 1) cap)) (.slice (some ⟨gg, 0, none⟩) (lets.length + 1) cap) kv (lets ++ [c]) (bs ++ [b']) ks zs E := by
  have ho5 : Only (fun g => lv.ownBlock = some g) w1 w5 := ((Only.refl (fun g => lv.ownBlock = some g) w1).alloc _).grown hgrow (fun k hk => .inl hk)
  have hl5 : w5.heap[w.heap.size]? = w1.heap[w.heap.size]? := ho5.block _ (lt_of_get h.blk) (fun e => by have := (h.lrow.lt _ e).1; omega)
  have ho : Only (fun g => g = w.heap.size ∨ lv.ownBlock = some g) w1 (w5.setCell ⟨w.heap.size, 1, none⟩ (.slice (some ⟨gg, 0, none⟩) (lets.length + 1) cap)) := (ho5.weak (fun i _ hi => .inr hi)).setCell (.inl (.inl rfl)) _
  have hoG : Only (Gx F w.heap.size lv kv E) w1 (w5.setCell ⟨w.heap.size, 1, none⟩ (.slice (some ⟨gg, 0, none⟩) (lets.length + 1) cap)) := ho.weak (fun i _ hi => by
    rcases hi with hi | hi
    · exact .inr (.inl hi)
    · exact .inr (.inr (.inl hi)))
  have hgw : w.heap.size + 1 ≤ gg := (hown.lt gg rfl).1
  have step : ∀ {b : Nat} {t : Tr}, TrF (Gx F w.heap.size lv kv E) d w1 b t → TrF (Gx F w.heap.size (.slice (some ⟨gg, 0, none⟩) (lets.length + 1) cap) kv E) d (w5.setCell ⟨w.heap.size, 1, none⟩ (.slice (some ⟨gg, 0, none⟩) (lets.length + 1) cap)) b t := fun {b t} hx => by
    refine tr_grown (gg := gg) hoG ?_ ?_ hx
    · rcases hat with e | e
      · exact .inl (.inr (.inr (.inl e)))
      · right; omega
    · intro g hg
      rcases hg with hg | hg | hg | hg | hg
      · exact .inl (.inl hg)
      · exact .inl (.inr (.inl hg))
      · right; simp [Value.ownBlock] at hg; exact hg.symm
      · exact .inl (.inr (.inr (.inr (.inl hg))))
      · exact .inl (.inr (.inr (.inr (.inr hg))))
  refine ⟨?_, by simp [h.len], ?_, ?_, ?_, ?_, ?_, h.old, ?_⟩
  · rw [heap_setCell_same w5 w.heap.size 1 _ _ _ (hl5.trans h.blk)]
    rfl
  · have h2 := ownsRow_setCell_other hown (a := ⟨w.heap.size, 1, none⟩) (by
      intro e
      simp [Value.ownBlock] at e
      omega) (.slice (some ⟨gg, 0, none⟩) (lets.length + 1) cap)
    unfold ptrs at h2 ⊢
    rw [List.length_append, List.map_append]
    exact h2
  · exact ownsRow_of_block h.krow (fun k hk => ho.block k (h.krow.lt k hk).2 (fun e => by
      rcases e with e | e
      · have := (h.krow.lt k hk).1; omega
      · exact h.apart e hk))
  · exact h.bel.trans (ho.below h.bel.size (fun k _ hk => by
      rcases hk with hk | hk
      · omega
      · have := (h.lrow.lt k hk).1; omega))
  · intro j hj
    by_cases e : j < lets.length
    · rw [getD_snoc_lt e, getD_snoc_lt (by rw [h.len]; exact e)]
      exact step (h.ltr j e)
    · have e2 : j = lets.length := by simp at hj; omega
      subst e2
      have e3 : (bs ++ [b']).getD lets.length 0 = b' := by rw [← h.len]; exact getD_snoc_eq
      rw [getD_snoc_eq, e3]
      exact step ht
  · exact h.its.map (fun _ _ t => step t)
  · intro g hg
    obtain ⟨a, b, c, e⟩ := h.off g hg
    refine ⟨a, Nat.lt_of_lt_of_le b ho.size, fun q => ?_, e⟩
    simp [Value.ownBlock] at q
    subst q
    rcases hat with q | q
    · exact c q
    · omega
/-- One more item. -/
theorem RwM.keep (h : RwM F n d w w1 lv kv lets bs ks zs E) {o : Obj} {gg cap : Nat} {x : ItT} {y : Yt} (ht : ItF (Gx F w.heap.size lv kv E) d w1 x y)
    (hown : w5.ownsRow (w.heap.size + 1) 163 10 (.slice (some ⟨gg, 0, none⟩) (zs.length + 1) cap) (zs.length + 1) (iCells zs ++ icell y)) (hgrow : (w1.alloc o).grownBy w5 kv.ownBlock) (hat : kv.ownBlock = some gg ∨ gg = w1.heap.size + 1) :
    RwM F n d w w5 lv (.slice (some ⟨gg, 0, none⟩) (zs.length + 1) cap) lets bs (ks ++ [x]) (zs ++ [y]) E := by
  have ho : Only (fun g => kv.ownBlock = some g) w1 w5 := ((Only.refl (fun g => kv.ownBlock = some g) w1).alloc _).grown hgrow (fun k hk => .inl hk)
  have hoG : Only (Gx F w.heap.size lv kv E) w1 w5 := ho.weak (fun i _ hi => .inr (.inr (.inr (.inl hi))))
  have step : ∀ {b : Nat} {t : Tr}, TrF (Gx F w.heap.size lv kv E) d w1 b t → TrF (Gx F w.heap.size lv (.slice (some ⟨gg, 0, none⟩) (zs.length + 1) cap) E) d w5 b t := fun {b t} hx => by
    refine tr_grown (gg := gg) hoG ?_ ?_ hx
    · rcases hat with e | e
      · exact .inl (.inr (.inr (.inr (.inl e))))
      · right; omega
    · intro g hg
      rcases hg with hg | hg | hg | hg | hg
      · exact .inl (.inl hg)
      · exact .inl (.inr (.inl hg))
      · exact .inl (.inr (.inr (.inl hg)))
      · right; simp [Value.ownBlock] at hg; exact hg.symm
      · exact .inl (.inr (.inr (.inr (.inr hg))))
  refine ⟨(ho.block _ (lt_of_get h.blk) (fun e => by have := (h.krow.lt _ e).1; omega)).trans h.blk, h.len, ownsRow_of_block h.lrow (fun k hk => ho.block k (h.lrow.lt k hk).2 (fun e => h.apart hk e)), ?_, h.bel.trans (ho.below h.bel.size (fun k _ hk => by have := (h.krow.lt k hk).1; omega)), fun j hj => step (h.ltr j hj), ?_, h.old, ?_⟩
  · rw [iCells_snoc, List.length_append]
    exact hown
  · exact (h.its.map (fun _ _ t => step t)).snoc ⟨ht.kd, ht.wh, step ht.tr⟩
  · intro g hg
    obtain ⟨a, b, c, e⟩ := h.off g hg
    refine ⟨a, Nat.lt_of_lt_of_le b ho.size, c, fun q => ?_⟩
    simp [Value.ownBlock] at q
    subst q
    rcases hat with q | q
    · exact e q
    · omega

/-- What is known from item to item. -/
theorem rw_step {p : Pass} {d : Nat} {fl : List Int} (hF : FieldsT fl) {x : ItT} {r : List ItT} {lets : List Tr} {m : Nat} {lt lt' : List Nat} {lv lv' : List Int} (h : RwInv p lets m lt lt' lv lv' fl) (hT : TyI d lt (x :: r)) (hS : SeqI m (x :: r)) :
    ∃ lt2 lt2' lv2 lv2', RwInv p (if x.kind = 11 then lets ++ [rwT p lets d x.c] else lets) (if x.kind = 11 then m + 1 else m) lt2 lt2' lv2 lv2' fl ∧ TyI d lt2 r ∧ SeqI (if x.kind = 11 then m + 1 else m) r := by
  obtain ⟨hw, hty, hk⟩ := hT
  have ha := rw_alike h.ok h.has' hF hw hty
  have hv := ev_has h.has hF hw hty
  rcases hk with ⟨h11, hwh, hT⟩ | ⟨hkk, ht2, hwh, hT⟩
  · have hS : x.wh = m ∧ SeqI (m + 1) r := by
      rcases hS with hS | hS
      · exact hS.2
      · exact absurd h11 hS.1
    obtain ⟨hm, hS⟩ := hS
    rw [hm] at hwh hT
    have h10 := h.llt
    obtain ⟨n1, n2⟩ := letsOK_more h (by omega) (c := rwT p lets d x.c) (ty := tyTr lt d x.c) (v := evT lv fl d x.c) (fun hs _ => by
      have hw1 : WfT 1 (rwT p lets d x.c) := by
        cases d with
        | zero => exact hw.elim
        | succ d => exact ⟨ha.wf.1, by rw [hs]; simp⟩
      have hd : 1 ≤ d := by
        cases d with
        | zero => exact hw.elim
        | succ d => omega
      refine ⟨hw1, ?_, ?_⟩
      · rw [← tyTr_up hw1 hd, ha.ty]
      · rw [← evT_up hw1 hd, ha.ev]) hv
    rw [if_pos h11, if_pos h11]
    by_cases hi : p.inl = true ∧ (rwT p lets d x.c).kids = []
    · exact ⟨_, _, _, _, n1 hi, hT, hS⟩
    · exact ⟨_, _, _, _, n2 hi, hT, hS⟩
  · have h11 : x.kind ≠ 11 := by omega
    have hS : SeqI m r := by
      rcases hS with hS | hS
      · exact absurd hS.1 h11
      · exact hS.2
    rw [if_neg h11, if_neg h11]
    exact ⟨_, _, _, _, h, hT, hS⟩
theorem inv_cx {nn : Int} {fl : List Int} (hF : FieldsT fl) {lets : List Tr} {m : Nat} {lt lt' : List Nat} {lv lv' : List Int} (h : RwInv (passOf nn) lets m lt lt' lv lv' fl) (hm : lets.length ≤ 1000) : RwCx nn lets lt lt' lv lv' fl :=
  ⟨h.ok, h.has', hF, fun i hi => by
    by_cases e : i < lets.length
    · exact e
    · exact absurd (h.late i (by rw [← h.len]; omega)) hi, hm⟩
end Go.Proofs.YtfkdailfcmnjlaaGreatDoor
