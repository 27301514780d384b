/-
  Rewriting items: the loop. The compiler: items rewritten, laid one behind the other, written. The program's Compile.
-/
import Derived.Test.YtfkdailfcmnjlaaGreatDoorCompiles01
import Derived.Test.YtfkdailfcmnjlaaGreatDoorCompiles02
import Derived.Test.YtfkdailfcmnjlaaGreatDoorCompiles03
import Derived.Test.YtfkdailfcmnjlaaGreatDoorCompiles04
import Derived.Test.YtfkdailfcmnjlaaGreatDoorCompiles05
import Derived.Test.YtfkdailfcmnjlaaGreatDoorCompiles06
import Derived.Test.YtfkdailfcmnjlaaGreatDoorCompiles07
import Derived.Test.YtfkdailfcmnjlaaGreatDoorCompiles08
import Derived.Test.YtfkdailfcmnjlaaGreatDoorCompiles09
import Derived.Test.YtfkdailfcmnjlaaGreatDoorCompiles10
import Derived.Test.YtfkdailfcmnjlaaGreatDoorCompiles11
import Derived.Test.YtfkdailfcmnjlaaGreatDoorCompiles12
import Derived.Test.YtfkdailfcmnjlaaGreatDoorCompiles13
import Derived.Test.YtfkdailfcmnjlaaGreatDoorCompiles14
import Derived.Test.YtfkdailfcmnjlaaGreatDoorCompiles15
import Derived.Test.YtfkdailfcmnjlaaGreatDoorCompiles16
import Derived.Test.YtfkdailfcmnjlaaGreatDoorCompiles17
import Derived.Test.YtfkdailfcmnjlaaGreatDoorCompiles18
import Derived.Test.YtfkdailfcmnjlaaGreatDoorCompiles19
import Derived.Test.YtfkdailfcmnjlaaGreatDoorCompiles20
import Derived.Test.YtfkdailfcmnjlaaGreatDoorCompiles21
import Derived.Test.YtfkdailfcmnjlaaGreatDoorCompiles22
import Derived.Test.YtfkdailfcmnjlaaGreatDoorCompiles23
import Derived.Test.YtfkdailfcmnjlaaGreatDoorCompiles24
import Derived.Test.YtfkdailfcmnjlaaGreatDoorCompiles25
import Derived.Test.YtfkdailfcmnjlaaGreatDoorCompiles26
import Derived.Test.YtfkdailfcmnjlaaGreatDoorCompiles27
import Derived.Test.YtfkdailfcmnjlaaGreatDoorCompiles28
import Derived.Test.YtfkdailfcmnjlaaGreatDoorCompiles29
import Derived.Test.YtfkdailfcmnjlaaGreatDoorCompiles30
import Derived.Test.YtfkdailfcmnjlaaGreatDoorCompiles31
import Derived.Test.YtfkdailfcmnjlaaGreatDoorCompiles32
import Derived.Test.YtfkdailfcmnjlaaGreatDoorCompiles33
import Derived.Test.YtfkdailfcmnjlaaGreatDoorCompiles34
import Derived.Test.YtfkdailfcmnjlaaGreatDoorCompiles35
import Derived.Test.YtfkdailfcmnjlaaGreatDoorCompiles37
import Derived.Test.YtfkdailfcmnjlaaGreatDoorCompiles38
import Derived.Test.YtfkdailfcmnjlaaGreatDoorCompiles39
import Derived.Test.YtfkdailfcmnjlaaGreatDoorCompiles40
import Derived.Test.YtfkdailfcmnjlaaGreatDoorCompiles41
import Derived.Test.YtfkdailfcmnjlaaGreatDoorCompiles42
import Derived.Test.YtfkdailfcmnjlaaGreatDoorCompiles43
import Derived.Test.YtfkdailfcmnjlaaGreatDoorCompiles46
import Derived.Test.YtfkdailfcmnjlaaGreatDoorCompiles47
import Derived.Test.YtfkdailfcmnjlaaGreatDoorCompiles48
import Derived.Test.YtfkdailfcmnjlaaGreatDoorCompiles49
import Derived.Test.YtfkdailfcmnjlaaGreatDoorCompiles50
import Derived.Test.YtfkdailfcmnjlaaGreatDoorCompiles51
import Derived.Test.YtfkdailfcmnjlaaGreatDoorLays
import Derived.Test.YtfkdailfcmnjlaaGreatDoorLays2
import Derived.Deep.RegionLaw
import Derived.WalkKit
import Derived.Deep.QuietTactic
import Derived.BigQuiet
import Derived.WalkSpells
import GoSem.Op.String
import Derived.Deep.AppendLies
import Derived.Deep.RegionHeld3
import Derived.Deep.DrawnRows
import Derived.Deep.RegionHeldLaw
import Derived.Lib.ParseIntBCases
import Derived.Deep.OwnRows
import Derived.Lib.LaidTab
import Derived.Lib.AppendIntMem
import Derived.Shelf.Strings.Builder1
import Derived.Laws.CopyOwn
import Derived.Deep.DeepCutAuto
import Derived.WalkSmall
import Derived.Lib.AppendZerosOnto
import Derived.Deep.Upon
import Derived.Deep.MidRow
import Derived.Shelf.SlicesQ.Reverse
import Derived.Ground.SlgnProg
set_option linter.unusedVariables false
set_option linter.unusedSimpArgs false
namespace Go.Proofs.YtfkdailfcmnjlaaGreatDoor
open Go Go.RowKit
set_option maxRecDepth 100000
attribute [local go_sem ↓] Go.wp_at_zero Go.wp_at_succ

/-- What the loop keeps. -/
structure RwL (F : Nat → Prop) (n : Int) (d : Nat) (fl : List Int) (xs : List ItT) (w wr : World) (lv kv : Value) (lets : List Tr) (bs : List Nat) (ks : List ItT) (zs : List Yt) (k : Nat) : Prop where
  mem : RwM F n d w wr lv kv lets bs ks zs (fun _ => False)
  zk : zs.length ≤ k
  lk : lets.length ≤ k
  inv : ∃ m lt lt' lvs lvs', RwInv (passOf n) lets m lt lt' lvs lvs' fl ∧ TyI d lt (xs.drop k) ∧ SeqI m (xs.drop k)
  eq : ks ++ rwI (passOf n) d lets (xs.drop k) = rwI (passOf n) d [] xs
theorem rw_start {F : Nat → Prop} {n : Int} {d : Nat} {fl : List Int} {xs : List ItT} {w : World} (hFo : ∀ g, F g → g < w.heap.size) (hTy : TyI d zeros10 xs) (hS : SeqI 0 xs) : RwL F n d fl xs w (w.alloc (.cells #[.int .i64 n, .slice none 0 0] 237)) (.slice none 0 0) (.slice none 0 0) [] [] [] [] 0 := by
  have hz : ∀ i, zeros10.getD i 0 ≠ 0 → False := fun i h => h (zeros10_at i)
  refine ⟨⟨heap_alloc_new w _, rfl, World.ownsRow_nil _ _ _ _, World.ownsRow_nil _ _ _ _, (Below.refl _ _).alloc (Nat.le_refl _) _, fun j hj => by simp at hj, ItsF.nil, hFo, fun g e => e.elim⟩, Nat.le_refl _, Nat.le_refl _, ⟨0, zeros10, zeros10, zeroV, zeroV, ⟨⟨fun i h => (hz i h).elim, fun i h => (hz i h).elim⟩, fun i h => (hz i h).elim, fun i h => (hz i h).elim, rfl, fun i _ => zeros10_at i, rfl, rfl, rfl, rfl, fun i h => (hz i h).elim⟩, hTy, hS⟩, rfl⟩
/-- What growing the lets leaves of the rewriter. -/
theorem let_far {F : Nat → Prop} {n : Int} {d : Nat} {w w1 w5 : World} {lv kv : Value} {lets : List Tr} {bs : List Nat} {ks : List ItT} {zs : List Yt} {E : Nat → Prop} {o : Obj} (h : RwM F n d w w1 lv kv lets bs ks zs E) (hgrow : (w1.alloc o).grownBy w5 lv.ownBlock) : w5.cell? ⟨w.heap.size, 1, none⟩ = some lv ∧ w5.frozen? ⟨w.heap.size, 1, none⟩ = false := by
  have ho5 : Only (fun g => lv.ownBlock = some g) w1 w5 := ((Only.refl (fun g => lv.ownBlock = some g) w1).alloc _).grown hgrow (fun k hk => .inl hk)
  have hb := (ho5.block _ (lt_of_get h.blk) (fun e => by have := (h.lrow.lt _ e).1; omega)).trans h.blk
  exact ⟨cell_of_row w5 _ 1 _ _ _ hb, frz hb⟩
theorem let_item {F : Nat → Prop} {n : Int} {d : Nat} {w w1 w5 : World} {lv kv : Value} {lets : List Tr} {bs : List Nat} {ks : List ItT} {zs : List Yt} {E : Nat → Prop} {o : Obj} (_h : RwM F n d w w1 lv kv lets bs ks zs E) (hgrow : (w1.alloc o).grownBy w5 lv.ownBlock) {it : Nat} (hl : it < w1.heap.size) (hn : lv.ownBlock ≠ some it) : w5.heap[it]? = w1.heap[it]? := by
  have ho5 : Only (fun g => lv.ownBlock = some g) w1 w5 := ((Only.refl (fun g => lv.ownBlock = some g) w1).alloc _).grown hgrow (fun k hk => .inl hk)
  exact ho5.block it hl hn
theorem let_last {F : Nat → Prop} {n : Int} {d : Nat} {w w1 : World} {lv kv : Value} {lets : List Tr} {bs : List Nat} {ks : List ItT} {zs : List Yt} {E : Nat → Prop} {c : Tr} {b : Nat} (h : RwM F n d w w1 lv kv (lets ++ [c]) (bs ++ [b]) ks zs E) : TrF (Gx F w.heap.size lv kv E) d w1 b c := by
  have := h.ltr lets.length (by simp)
  have hl : bs.length = lets.length := by have := h.len; simpa using this
  have e3 : (bs ++ [b]).getD lets.length 0 = b := by rw [← hl]; exact getD_snoc_eq
  rw [getD_snoc_eq, e3] at this
  exact this
theorem tyI_items {d : Nat} : ∀ {l : List ItT} {lt : List Nat}, TyI d lt l → lt.length = 10 → ∀ j, j < l.length → WfT d (l.getD j noIt).c ∧ (∃ lt : List Nat, lt.length = 10 ∧ tyTr lt d (l.getD j noIt).c ≠ 0) ∧ ((l.getD j noIt).kind = 11 → (l.getD j noIt).wh < 10)
  | [], lt, _, _, j, hj => by simp at hj
  | x :: r, lt, h, hl, j, hj => by
    obtain ⟨hw, hty, hk⟩ := h
    cases j with
    | zero =>
      refine ⟨hw, ⟨lt, hl, hty⟩, fun h11 => ?_⟩
      have h11' : x.kind = 11 := h11
      rcases hk with ⟨_, h2, _⟩ | ⟨h2, _⟩
      · rw [hl] at h2; exact h2
      · omega
    | succ j =>
      have hj' : j < r.length := by simpa using hj
      rcases hk with ⟨_, _, h2⟩ | ⟨_, _, _, h2⟩
      · exact tyI_items h2 (by simpa using hl) j hj'
      · exact tyI_items h2 hl j hj'
set_option maxHeartbeats 8000000 in
theorem rewrite_any {F : Nat → Prop} {n : Int} {d : Nat} {fl : List Int} (hF : FieldsT fl) {xs : List ItT} {ys : List Yt} {v : Value} {w : World} (hv : RowF w v ys) (hI : ItsF F d w xs ys) (hFo : ∀ g, F g → g < w.heap.size) (hl : ys.length ≤ 1000) (hTy : TyI d zeros10 xs) (hS : SeqI 0 xs) :
    Calls Tryz.prog 91 #[v, .int .i64 n] w fun e w' => ∃ v' ys', e = .returned v' ∧ RowF w' v' ys' ∧ ItsF F d w' (rewT (passOf n) d xs) ys' ∧ Below w.heap.size w w' ∧ ys'.length ≤ ys.length := by
  obtain ⟨a, cap, rfl, hq⟩ := hv
  have HQ : Hid _ := hq
  have HI : Hid (ItsF F d w xs ys) := hI
  have HF : Hid (FieldsT fl) := hF
  have H0 : Hid (RwL F n d fl xs w (w.alloc (.cells #[.int .i64 n, .slice none 0 0] 237)) (.slice none 0 0) (.slice none 0 0) [] [] [] [] 0) := rw_start hFo hTy hS
  have HTY : Hid _ := And.intro hTy hS
  obtain ⟨i0, hi, hz0, hz1, hz2⟩ := info_parts info_pitem
  obtain ⟨j0, hj, hy0, hy1, hy2⟩ := info_parts info_cond
  clear hq hI hTy hS hF hFo
  go_enter Tryz.func91, Tryz.ntmps91
  go_wp2_with fail
  go_loopw [6, 14] (fun kv iv wr => ∃ (k : Nat) (lv : Value) (lets : List Tr) (bs : List Nat) (ks : List ItT) (zs : List Yt), k ≤ ys.length ∧ iv = .int .i64 k ∧ Hid (RwL F n d fl xs w wr lv kv lets bs ks zs k)) (fun _ iv _ => ys.length - (intOf iv).toNat)
  case atStart => exact ⟨0, _, _, _, _, _, Nat.zero_le _, rfl, H0.out⟩
  case round =>
    obtain ⟨k, lv, lets, bs, ks, zs, hkk, rfl, HX⟩ := hrel
    by_cases hlt : k < ys.length
    · have hX := HX.out
      have hE := hX.eq
      obtain ⟨mm, lt, lt', lvs, lvs', hInv, hTy, hSq⟩ := hX.inv
      obtain ⟨g, rfl, hgl, hcells⟩ := HQ.out k hlt
      have hIt := HI.out.2 k hlt
      have hlk := hX.lk
      have hzk := hX.zk
      rw [drop_at (by rw [HI.out.1]; exact hlt) noIt] at hE hTy hSq
      obtain ⟨mm2, hst⟩ : ∃ mm2, ∃ lt2 lt2' lv2 lv2', RwInv (passOf n) (if (xs.getD k noIt).kind = 11 then lets ++ [rwT (passOf n) lets d (xs.getD k noIt).c] else lets) mm2 lt2 lt2' lv2 lv2' fl ∧ TyI d lt2 (xs.drop (k + 1)) ∧ SeqI mm2 (xs.drop (k + 1)) := ⟨_, rw_step HF.out hInv hTy hSq⟩
      have HST : Hid _ := hst
      generalize xs.getD k noIt = x at *
      generalize ys.getD k noY = y at *
      obtain ⟨t0, u0, b, wh⟩ := y
      have HIT : Hid _ := hIt
      have hkd := hIt.kd
      have hwh := hIt.wh
      simp only [] at hkd hwh
      subst hwh
      have HKD : Hid _ := hkd
      clear hkd
      obtain ⟨va, vcap, ev⟩ := rowSl hX.mem.krow
      obtain rfl := ev
      obtain ⟨la, lcap, ev⟩ := rowSl hX.mem.lrow
      obtain rfl := ev
      have hbw := hX.mem.bel
      have hct : ∀ j, j < 10 → wr.cell? ⟨g, k * 10 + j, none⟩ = (icell (t0, u0, b, (x.wh : Int)))[j]? := fun j hj => by
        rw [hbw.cell (p := ⟨g, k * 10 + j, none⟩) hgl]; exact hcells j hj
      have c0 : wr.cell? ⟨g, k * 10, none⟩ = some (.int .i64 (kindOf t0)) := hct 0 (by omega)
      have c1 : wr.cell? ⟨g, k * 10 + 1, none⟩ = some (.int .i64 t0.pl) := hct 1 (by omega)
      have c2 : wr.cell? ⟨g, k * 10 + 2, none⟩ = some (.int .i64 (nmOf t0)) := hct 2 (by omega)
      have c3 : wr.cell? ⟨g, k * 10 + 3, none⟩ = some (S (ownOf t0)) := hct 3 (by omega)
      have c4 : wr.cell? ⟨g, k * 10 + 4, none⟩ = some (.int .i64 (kindOf u0)) := hct 4 (by omega)
      have c5 : wr.cell? ⟨g, k * 10 + 5, none⟩ = some (.int .i64 u0.pl) := hct 5 (by omega)
      have c6 : wr.cell? ⟨g, k * 10 + 6, none⟩ = some (.int .i64 (nmOf u0)) := hct 6 (by omega)
      have c7 : wr.cell? ⟨g, k * 10 + 7, none⟩ = some (S (ownOf u0)) := hct 7 (by omega)
      have c8 : wr.cell? ⟨g, k * 10 + 8, none⟩ = some (.int .i64 (x.wh : Nat)) := hct 8 (by omega)
      have c9 : wr.cell? ⟨g, k * 10 + 9, none⟩ = some (.pointer (some ⟨b, 0, none⟩)) := hct 9 (by omega)
      have hkb : (0 : Int) ≤ (k : Int) ∧ (k : Int) < (ys.length : Int) := by omega
      have hz1' : (wr.alloc (itObjW t0 u0 (x.wh : Int) (.pointer (some ⟨b, 0, none⟩)))).heap[wr.heap.size]? = some (itObjW t0 u0 (x.wh : Int) (.pointer (some ⟨b, 0, none⟩))) := heap_alloc_new wr _
      have hM1 := hX.mem.item (itObjW t0 u0 (x.wh : Int) (.pointer (some ⟨b, 0, none⟩)))
      unfold itObjW at hz1' hM1
      generalize hw1 : wr.alloc (.cells #[.int .i64 (kindOf t0), .int .i64 t0.pl, .int .i64 (nmOf t0), S (ownOf t0), .int .i64 (kindOf u0), .int .i64 u0.pl, .int .i64 (nmOf u0), S (ownOf u0), .int .i64 (x.wh : Nat), .pointer (some ⟨b, 0, none⟩)] 163 (0, 0)) = w1 at *
      have HW1 : Hid _ := hw1
      have hT1 : TrF (Gx F w.heap.size (.slice la lets.length lcap) (.slice va zs.length vcap) (fun g => g = wr.heap.size)) d w1 b x.c := (hIt.tr.more (fun g hg hx => by rcases hM1.ge g hx with q | q; omega; exact q)).below hM1.bel
      have W1 := rewrites (inv_cx HF.out hInv (by omega)) d d hM1.lt hM1.rw hTy.1 hTy.2.1 hT1
      have HM1 : Hid _ := hM1
      have HIT1 : Hid _ := hz1'
      have HE : Hid _ := hE
      obtain ⟨⟨z0, z1, z2, z3, z4, z5, z6, z7, z8, z9⟩, zf⟩ := it_cells hz1'
      clear hct hcells hX hbw hIt hz1' HX hgl hw1 hE hst hInv hTy hSq hM1 hT1
      go_upto_region 6 with fail
      rw [HW1.out]
      go_upto_region 7 with (first | (go_at_call 128; refine W1.mono ?_; rintro e w2 ⟨⟨b', rfl, ht2⟩, hb2⟩; have q9 : w2.cell? ⟨wr.heap.size, 9, none⟩ = some (.pointer (some ⟨b, 0, none⟩)) := by { rw [hb2.cell (p := ⟨wr.heap.size, 9, none⟩) (lt_of_get HIT1.out)]; exact z9 }; have qf : w2.frozen? ⟨wr.heap.size, 9, none⟩ = false := by { rw [World.frozen?_of_block (w := w1) (a := ⟨wr.heap.size, 9, none⟩) (hb2.block _ (lt_of_get HIT1.out))]; exact zf 9 }))
      have hM3 := (HM1.out.below hb2).only ((Only.refl (fun g => g = wr.heap.size) w2).setCell (o := 9) (.inl rfl) (.pointer (some ⟨b', 0, none⟩)))
      have ht3 := ht2.only (((Only.refl (fun g => g = wr.heap.size) w2).setCell (o := 9) (.inl rfl) (.pointer (some ⟨b', 0, none⟩))).weak (fun i _ hi => Or.inl hi))
      have hit3 : (w2.setCell ⟨wr.heap.size, 9, none⟩ (.pointer (some ⟨b', 0, none⟩))).heap[wr.heap.size]? = some (.cells #[.int .i64 (kindOf t0), .int .i64 t0.pl, .int .i64 (nmOf t0), S (ownOf t0), .int .i64 (kindOf u0), .int .i64 u0.pl, .int .i64 (nmOf u0), S (ownOf u0), .int .i64 (x.wh : Nat), .pointer (some ⟨b', 0, none⟩)] 163 (0, 0)) := by
        rw [heap_setCell_same w2 wr.heap.size 9 _ _ _ ((hb2.block _ (lt_of_get HIT1.out)).trans HIT1.out)]; rfl
      generalize w2.setCell ⟨wr.heap.size, 9, none⟩ (.pointer (some ⟨b', 0, none⟩)) = w3 at *
      clear z0 z1 z2 z3 z4 z5 z6 z7 z8 z9 zf c0 c1 c2 c3 c4 c5 c6 c7 c8 c9 q9 qf W1 ht2 hb2 HM1 HIT1 HW1
      obtain ⟨⟨s0, s1, s2, s3, s4, s5, s6, s7, s8, s9⟩, sf⟩ := it_cells hit3
      have HM3 : Hid _ := hM3
      have HT3 : Hid _ := ht3
      have HIT3 : Hid _ := hit3
      by_cases h11 : x.kind = 11
      · have i11 : ((kindOf t0 : Int) == 11) = true := by rw [HKD.out, h11]; rfl
        have HST2 : Hid _ := HST.out
        rw [if_pos h11] at HST2
        have hD : Below w3.heap.size w3 w3.drew := (Below.refl _ _).drew
        have HM3D : Hid _ := hM3.below hD
        have HT3D : Hid _ := ht3.below hD
        have HL3 : Hid (w3.drew.ownsRow (w.heap.size + 1) 161 1 (.slice la lets.length lcap) lets.length (ptrs bs)) := HM3D.out.lrow
        have r1 : w3.cell? ⟨w.heap.size, 1, none⟩ = some (.slice la lets.length lcap) := cell_of_row w3 _ 1 _ _ _ hM3.blk
        have rf : w3.frozen? ⟨w.heap.size, 1, none⟩ = false := frz hM3.blk
        have hw3 : w.heap.size + 1 ≤ w3.heap.size := hM3.big
        have HRI : Hid (rwI (passOf n) d lets (x :: List.drop (k + 1) xs) = if bitB n 1 = true ∧ (rwT (passOf n) lets d x.c).kids = [] then rwI (passOf n) d (lets ++ [rwT (passOf n) lets d x.c]) (List.drop (k + 1) xs) else ⟨x.kind, x.wh, rwT (passOf n) lets d x.c⟩ :: rwI (passOf n) d (lets ++ [rwT (passOf n) lets d x.c]) (List.drop (k + 1) xs)) := by
          show _ = _
          rw [rwI, if_pos h11]
          by_cases q : bitB n 1 = true ∧ (rwT (passOf n) lets d x.c).kids = []
          · rw [if_pos q, if_pos ⟨q.1, h11, q.2⟩]
          · rw [if_neg q, if_neg (fun e => q ⟨e.1, e.2.2⟩)]
        have HKN : Hid (decide (kindOf t0 = 11) = true) := by show _ = _; rw [HKD.out]; exact decide_eq_true h11
        have pa : w.heap.size < w3.heap.size := by omega
        have pb : w.heap.size ≠ w3.heap.size := by omega
        have pc : w3.heap.size ≠ w.heap.size := by omega
        have ia : wr.heap.size < w3.heap.size := lt_of_get hit3
        have ib : wr.heap.size ≠ w3.heap.size := by omega
        have ic : w3.heap.size ≠ wr.heap.size := by omega
        clear hM3 ht3 hit3 h11 hD
        go_upto_region 8 with fail
        go_region_law (first
          | (refine step_append_lies _ (by rfl) _ _ _ (by rfl) (w.heap.size + 1) 161 j0 _ 1 8 Tryz.underlying227 hj hy0 hy1 hy2 (by rfl) (by decide) (.slice la lets.length lcap) lets.length (ptrs bs) (by rfl) (World.ownsRow.alloc HL3.out _) ⟨w3.heap.size, 0, none⟩ 1 1 [.pointer (some ⟨b', 0, none⟩)] (by rfl) (by rfl) (World.news_of_block (heap_alloc_new w3.drew _)) (fun x hx => by simp at hx; rcases hx with rfl; rfl) (by decide) (by unfold maxLen; omega) (by omega) (by simp; omega) (w3.heap.size + 1) (by simp) ?_; intro gg1 cap1 w5 hown3 hgrow hat hlt3; have y1 := (let_far HM3D.out hgrow).1; have yf := (let_far HM3D.out hgrow).2; have HI5 : Hid _ := let_item HM3D.out hgrow (lt_of_get HIT3.out) (HM3D.out.off _ rfl).2.2.1; have HM6 : Hid _ := HM3D.out.addLet HT3D.out hown3 hgrow (by rcases hat with h | h; exact .inl h; right; rw [h]; rfl); clear hown3 hgrow hat hlt3))
        all_goals
          have hit6 : (w5.setCell ⟨w.heap.size, 1, none⟩ (.slice (some ⟨gg1, 0, none⟩) (lets.length + 1) cap1)).heap[wr.heap.size]? = _ := (Below.heap_setCell _ _ _ _ (by have := (HM3D.out.off _ rfl).1; simp only []; omega)).trans (HI5.out.trans HIT3.out)
          have HIT6 : Hid _ := hit6
          generalize w5.setCell ⟨w.heap.size, 1, none⟩ (.slice (some ⟨gg1, 0, none⟩) (lets.length + 1) cap1) = w6 at *
          generalize Value.slice (some ⟨gg1, 0, none⟩) (lets.length + 1) cap1 = lv6 at *
          have HT6 : Hid _ := let_last HM6.out
          have W2 := inlined_any (kd := kindOf t0) (wh := x.wh) (a1 := .int .i64 t0.pl) (a2 := .int .i64 (nmOf t0)) (a3 := S (ownOf t0)) (a4 := .int .i64 (kindOf u0)) (a5 := .int .i64 u0.pl) (a6 := .int .i64 (nmOf u0)) (a7 := S (ownOf u0)) rfl rfl rfl rfl rfl rfl rfl HM6.out.rw HT6.out
          rw [HKN.out, Bool.true_and] at W2
          clear s0 s1 s2 s3 s4 s5 s6 s7 s8 s9 sf r1 rf y1 yf
          obtain ⟨⟨s0, s1, s2, s3, s4, s5, s6, s7, s8, s9⟩, sf⟩ := it_cells hit6
          clear hit6
          cases hb1 : bitB n 1
          · have HNI : Hid (rwI (passOf n) d lets (x :: List.drop (k + 1) xs) = ⟨x.kind, x.wh, rwT (passOf n) lets d x.c⟩ :: rwI (passOf n) d (lets ++ [rwT (passOf n) lets d x.c]) (List.drop (k + 1) xs)) := by
              show _ = _
              rw [HRI.out, if_neg (fun e => by rw [hb1] at e; simp at e)]
            rw [hb1, Bool.false_and] at W2
            clear HRI HKN
            go_upto_region 9 with fail
            go_upto_region 10 with (first | (go_at_call 129; refine W2.mono ?_; rintro e w7 ⟨rfl, hb7⟩))
            have HM7 : Hid _ := HM6.out.below hb7
            have HT7 : Hid _ := HT6.out.below hb7
            have hit7 := (hb7.block _ (lt_of_get HIT6.out)).trans HIT6.out
            obtain ⟨⟨p0, p1, p2, p3, p4, p5, p6, p7, p8, p9⟩, pf⟩ := it_cells hit7
            have HOW : Hid (w7.ownsRow (w.heap.size + 1) 163 10 (.slice va zs.length vcap) zs.length (iCells zs)) := HM7.out.krow
            have hws : w.heap.size + 1 ≤ w7.heap.size := HM7.out.big
            clear hit7 hb7 W2 s0 s1 s2 s3 s4 s5 s6 s7 s8 s9 sf
            go_wp2_with (at_builtin; go_must (refine wpList_append_lies _ (by rfl) _ _ 84 (by rfl) (w.heap.size + 1) 163 i0 (.agg #[.int .i64 0, .int .i64 0, .int .i64 0, .string ⟨#[]⟩, .int .i64 0, .int .i64 0, .int .i64 0, .string ⟨#[]⟩, .int .i64 0, .pointer none]) 10 96 Tryz.underlying84 hi hz0 hz1 hz2 (by rfl) (by decide) _ _ _ (by rfl) (HOW.out.alloc _) ⟨w7.heap.size, 0, none⟩ 1 1 [.int .i64 (kindOf t0), .int .i64 t0.pl, .int .i64 (nmOf t0), S (ownOf t0), .int .i64 (kindOf u0), .int .i64 u0.pl, .int .i64 (nmOf u0), S (ownOf u0), .int .i64 (x.wh : Nat), .pointer (some ⟨b', 0, none⟩)] (by rfl) (by rfl) (World.news_of_block (heap_alloc_new w7 _)) (fun x hx => by simp at hx; rcases hx with rfl | rfl | rfl | rfl | rfl | rfl | rfl | rfl | rfl | rfl <;> rfl) (by decide) (by unfold maxLen; omega) (by omega) (by simp; omega) _ rfl ?_); intro gg cap2 w8 hown3 hgrow hat hlt3; have HN : Hid _ := (HM7.out.keep (x := ⟨x.kind, x.wh, rwT (passOf n) lets d x.c⟩) (y := (t0, u0, b', (x.wh : Int))) ⟨HKD.out, rfl, HT7.out⟩ hown3 hgrow (by rcases hat with h | h; exact .inl h; right; rw [h, World.size_alloc])).free; clear hown3 hgrow hat hlt3)
            go_roundw
            case rel =>
              obtain ⟨lt2, lt2', lv2, lv2', i1, i2, i3⟩ := HST2.out
              exact ⟨k + 1, _, _, _, _, _, by omega, by go_num, ⟨HN.out, by simp; omega, by simp; omega, ⟨_, _, _, _, _, i1, i2, i3⟩, by rw [← HE.out, HNI.out]; simp⟩⟩
            case measure => simp [intOf]; omega
          · by_cases hks : (rwT (passOf n) lets d x.c).kids = []
            · have HNI : Hid (rwI (passOf n) d lets (x :: List.drop (k + 1) xs) = rwI (passOf n) d (lets ++ [rwT (passOf n) lets d x.c]) (List.drop (k + 1) xs)) := by
                show _ = _
                rw [HRI.out, if_pos ⟨hb1, hks⟩]
              rw [hb1, Bool.true_and, decide_eq_true hks] at W2
              clear HRI HKN hks
              go_wp2_with (first | (go_at_call 129; refine W2.mono ?_; rintro e w7 ⟨rfl, hb7⟩))
              have HM7 : Hid _ := (HM6.out.below hb7).free
              clear hb7 W2
              go_roundw
              case rel =>
                obtain ⟨lt2, lt2', lv2, lv2', i1, i2, i3⟩ := HST2.out
                exact ⟨k + 1, _, _, _, _, _, by omega, by go_num, ⟨HM7.out, by omega, by simp; omega, ⟨_, _, _, _, _, i1, i2, i3⟩, by rw [← HE.out, HNI.out]⟩⟩
              case measure => simp [intOf]; omega
            · have HNI : Hid (rwI (passOf n) d lets (x :: List.drop (k + 1) xs) = ⟨x.kind, x.wh, rwT (passOf n) lets d x.c⟩ :: rwI (passOf n) d (lets ++ [rwT (passOf n) lets d x.c]) (List.drop (k + 1) xs)) := by
                show _ = _
                rw [HRI.out, if_neg (fun e => hks e.2)]
              rw [hb1, Bool.true_and, decide_eq_false hks] at W2
              clear hks
              clear HRI HKN
              go_upto_region 9 with fail
              go_upto_region 10 with (first | (go_at_call 129; refine W2.mono ?_; rintro e w7 ⟨rfl, hb7⟩))
              have HM7 : Hid _ := HM6.out.below hb7
              have HT7 : Hid _ := HT6.out.below hb7
              have hit7 := (hb7.block _ (lt_of_get HIT6.out)).trans HIT6.out
              obtain ⟨⟨p0, p1, p2, p3, p4, p5, p6, p7, p8, p9⟩, pf⟩ := it_cells hit7
              have HOW : Hid (w7.ownsRow (w.heap.size + 1) 163 10 (.slice va zs.length vcap) zs.length (iCells zs)) := HM7.out.krow
              have hws : w.heap.size + 1 ≤ w7.heap.size := HM7.out.big
              clear hit7 hb7 W2 s0 s1 s2 s3 s4 s5 s6 s7 s8 s9 sf
              go_wp2_with (at_builtin; go_must (refine wpList_append_lies _ (by rfl) _ _ 84 (by rfl) (w.heap.size + 1) 163 i0 (.agg #[.int .i64 0, .int .i64 0, .int .i64 0, .string ⟨#[]⟩, .int .i64 0, .int .i64 0, .int .i64 0, .string ⟨#[]⟩, .int .i64 0, .pointer none]) 10 96 Tryz.underlying84 hi hz0 hz1 hz2 (by rfl) (by decide) _ _ _ (by rfl) (HOW.out.alloc _) ⟨w7.heap.size, 0, none⟩ 1 1 [.int .i64 (kindOf t0), .int .i64 t0.pl, .int .i64 (nmOf t0), S (ownOf t0), .int .i64 (kindOf u0), .int .i64 u0.pl, .int .i64 (nmOf u0), S (ownOf u0), .int .i64 (x.wh : Nat), .pointer (some ⟨b', 0, none⟩)] (by rfl) (by rfl) (World.news_of_block (heap_alloc_new w7 _)) (fun x hx => by simp at hx; rcases hx with rfl | rfl | rfl | rfl | rfl | rfl | rfl | rfl | rfl | rfl <;> rfl) (by decide) (by unfold maxLen; omega) (by omega) (by simp; omega) _ rfl ?_); intro gg cap2 w8 hown3 hgrow hat hlt3; have HN : Hid _ := (HM7.out.keep (x := ⟨x.kind, x.wh, rwT (passOf n) lets d x.c⟩) (y := (t0, u0, b', (x.wh : Int))) ⟨HKD.out, rfl, HT7.out⟩ hown3 hgrow (by rcases hat with h | h; exact .inl h; right; rw [h, World.size_alloc])).free; clear hown3 hgrow hat hlt3)
              go_roundw
              case rel =>
                obtain ⟨lt2, lt2', lv2, lv2', i1, i2, i3⟩ := HST2.out
                exact ⟨k + 1, _, _, _, _, _, by omega, by go_num, ⟨HN.out, by simp; omega, by simp; omega, ⟨_, _, _, _, _, i1, i2, i3⟩, by rw [← HE.out, HNI.out]; simp⟩⟩
              case measure => simp [intOf]; omega
      · have i11 : ((kindOf t0 : Int) == 11) = false := by rw [HKD.out]; simp; omega
        have HNI : Hid (rwI (passOf n) d lets (x :: List.drop (k + 1) xs) = ⟨x.kind, x.wh, rwT (passOf n) lets d x.c⟩ :: rwI (passOf n) d lets (List.drop (k + 1) xs)) := by
          show _ = _
          rw [rwI, if_neg h11, if_neg (fun e => h11 e.2.1)]
        have HST2 : Hid _ := HST.out
        rw [if_neg h11] at HST2
        have W2 := inlined_any (kd := kindOf t0) (wh := x.wh) (a1 := .int .i64 t0.pl) (a2 := .int .i64 (nmOf t0)) (a3 := S (ownOf t0)) (a4 := .int .i64 (kindOf u0)) (a5 := .int .i64 u0.pl) (a6 := .int .i64 (nmOf u0)) (a7 := S (ownOf u0)) rfl rfl rfl rfl rfl rfl rfl hM3.rw ht3
        have hkn : decide (kindOf t0 = 11) = false := by rw [HKD.out]; exact decide_eq_false h11
        rw [hkn, Bool.false_and, Bool.and_false] at W2
        clear hM3 ht3 hit3 hkn h11
        go_upto_region 9 with fail
        go_upto_region 10 with (first | (go_at_call 129; refine W2.mono ?_; rintro e w7 ⟨rfl, hb7⟩))
        have HM7 : Hid _ := HM3.out.below hb7
        have HT7 : Hid _ := HT3.out.below hb7
        have hit7 := (hb7.block _ (lt_of_get HIT3.out)).trans HIT3.out
        obtain ⟨⟨p0, p1, p2, p3, p4, p5, p6, p7, p8, p9⟩, pf⟩ := it_cells hit7
        have HOW : Hid (w7.ownsRow (w.heap.size + 1) 163 10 (.slice va zs.length vcap) zs.length (iCells zs)) := HM7.out.krow
        have hws : w.heap.size + 1 ≤ w7.heap.size := HM7.out.big
        clear hit7 hb7 W2 s0 s1 s2 s3 s4 s5 s6 s7 s8 s9 sf
        go_wp2_with (at_builtin; go_must (refine wpList_append_lies _ (by rfl) _ _ 84 (by rfl) (w.heap.size + 1) 163 i0 (.agg #[.int .i64 0, .int .i64 0, .int .i64 0, .string ⟨#[]⟩, .int .i64 0, .int .i64 0, .int .i64 0, .string ⟨#[]⟩, .int .i64 0, .pointer none]) 10 96 Tryz.underlying84 hi hz0 hz1 hz2 (by rfl) (by decide) _ _ _ (by rfl) (HOW.out.alloc _) ⟨w7.heap.size, 0, none⟩ 1 1 [.int .i64 (kindOf t0), .int .i64 t0.pl, .int .i64 (nmOf t0), S (ownOf t0), .int .i64 (kindOf u0), .int .i64 u0.pl, .int .i64 (nmOf u0), S (ownOf u0), .int .i64 (x.wh : Nat), .pointer (some ⟨b', 0, none⟩)] (by rfl) (by rfl) (World.news_of_block (heap_alloc_new w7 _)) (fun x hx => by simp at hx; rcases hx with rfl | rfl | rfl | rfl | rfl | rfl | rfl | rfl | rfl | rfl <;> rfl) (by decide) (by unfold maxLen; omega) (by omega) (by simp; omega) _ rfl ?_); intro gg cap2 w8 hown3 hgrow hat hlt3; have HN : Hid _ := (HM7.out.keep (x := ⟨x.kind, x.wh, rwT (passOf n) lets d x.c⟩) (y := (t0, u0, b', (x.wh : Int))) ⟨HKD.out, rfl, HT7.out⟩ hown3 hgrow (by rcases hat with h | h; exact .inl h; right; rw [h, World.size_alloc])).free; clear hown3 hgrow hat hlt3)
        go_roundw
        case rel =>
          obtain ⟨lt2, lt2', lv2, lv2', i1, i2, i3⟩ := HST2.out
          exact ⟨k + 1, _, _, _, _, _, by omega, by go_num, ⟨HN.out, by simp; omega, by omega, ⟨_, _, _, _, _, i1, i2, i3⟩, by rw [← HE.out, HNI.out]; simp⟩⟩
        case measure => simp [intOf]; omega
    · obtain rfl : k = ys.length := by omega
      have hX := HX.out
      have hE : ks = rwI (passOf n) d [] xs := by
        have := hX.eq
        rw [List.drop_of_length_le (by rw [HI.out.1]; exact Nat.le_refl _)] at this
        simpa [rwI] using this
      have HIS : Hid (ItsF F d wr ks zs) := hX.mem.its.map (fun _ _ t => t.more (fun _ _ e => .inr (.inr (.inr (.inr e)))))
      have HR : Hid (RowF wr u6 zs) := RowF.of_row hX.mem.krow
      have HB : Hid (Below w.heap.size w wr) := hX.mem.bel
      have HZ : Hid (zs.length ≤ ys.length) := hX.zk
      have HTI : Hid (TyI d zeros10 (reaT ks)) := by
        have hz : ∀ i, zeros10.getD i 0 ≠ 0 → False := fun i h => h (zeros10_at i)
        have i1 := (rwI_ok (p := passOf n) (d := d) HF.out (lets := []) (m := 0) (lt := zeros10) (lt' := zeros10) (lv := zeroV) (lv' := zeroV) ⟨⟨fun i h => (hz i h).elim, fun i h => (hz i h).elim⟩, fun i h => (hz i h).elim, fun i h => (hz i h).elim, rfl, fun i _ => zeros10_at i, rfl, rfl, rfl, rfl, fun i h => (hz i h).elim⟩ HTY.out.1 HTY.out.2).1
        rw [← hE] at i1
        exact (reaT_ok (fl := fl) (lv := zeroV) i1).1
      have HRT : Hid (rewT (passOf n) d xs = if bitB n 4 = true then (askT d (reaT ks)).1 else ks) := by
        show _ = _
        rw [hE]; rfl
      have D1 := does_any 4 (cell_of_row wr _ 0 _ _ _ hX.mem.blk : wr.cell? ⟨w.heap.size, 0, none⟩ = some (.int .i64 n))
      clear hX HX hE
      cases h4 : bitB n 4
      · rw [h4] at D1
        have HRT2 : Hid (rewT (passOf n) d xs = ks) := by show _ = _; rw [HRT.out, if_neg (by rw [h4]; decide)]
        clear HRT HTI h4
        go_wp2_with fail
        refine D1.mono ?_
        rintro e w' ⟨rfl, hw'⟩
        subst hw'
        clear D1
        go_wp2_with fail
        go_ret
        exact ⟨_, zs, rfl, HR.out, by rw [HRT2.out]; exact HIS.out, HB.out, HZ.out⟩
      · rw [h4] at D1
        have HRT2 : Hid (rewT (passOf n) d xs = (askT d (reaT ks)).1) := by show _ = _; rw [HRT.out, if_pos h4]
        have V1 := fun (_ : Unit) => reached_any HR.out HIS.out (by have := HZ.out; omega)
        clear HRT h4
        go_wp2_with fail
        refine D1.mono ?_
        rintro e w' ⟨rfl, hw'⟩
        subst hw'
        clear D1
        go_wp2_with fail
        refine (V1 ()).mono ?_
        rintro e w7 ⟨v7, ys7, rfl, kp, hl7⟩
        have V2 := asked_any (F := F) (RowF.of_row kp.row) (kp.its.map (fun _ _ t => t.below kp.bel)) (by have := HZ.out; omega) (fun j hj => tyI_items HTI.out rfl j (by rw [kp.its.1]; exact hj))
        have HB7 : Hid (Below w.heap.size w w7) := HB.out.trans (kp.bel.mono HB.out.size)
        have HL7 : Hid (ys7.length ≤ zs.length) := hl7
        clear V1 kp hl7
        go_wp2_with fail
        refine V2.mono ?_
        rintro e w8 ⟨v8, ys8, rfl, hr8, hi8, hb8, hl8⟩
        have HE8 : Hid (RowF w8 v8 ys8 ∧ ItsF F d w8 (askT d (reaT ks)).1 ys8 ∧ Below w.heap.size w w8 ∧ ys8.length ≤ ys.length) := ⟨hr8, hi8.map (fun _ _ t => t.below hb8), HB7.out.trans (hb8.mono HB7.out.size), by have := HZ.out; have := HL7.out; omega⟩
        clear V2 hr8 hi8 hb8 hl8
        go_wp2_with fail
        go_ret
        exact ⟨_, ys8, rfl, HE8.out.1, by rw [HRT2.out]; exact HE8.out.2.1, HE8.out.2.2.1, HE8.out.2.2.2⟩
end Go.Proofs.YtfkdailfcmnjlaaGreatDoor

namespace Go.Proofs.YtfkdailfcmnjlaaGreatDoor
open Go Go.RowKit
set_option maxRecDepth 100000
attribute [local go_sem ↓] Go.wp_at_zero Go.wp_at_succ

theorem RowF.only {w w' : World} {v : Value} {ys : List Yt} {lp : Nat} {j : Bool} {a b c : Value} {T : TypeId} {z : Nat × Nat} (h : RowF w v ys) (ho : Only (fun g => g = lp) w w') (hb : w.heap[lp]? = some (.cells #[.bool j, a, b, c] T z)) : RowF w' v ys := by
  obtain ⟨q, cap, e, hc⟩ := h
  refine ⟨q, cap, e, fun k hk => ?_⟩
  obtain ⟨g, e, hg, hj⟩ := hc k hk
  have hne : ¬ g = lp := fun e => by
    subst e
    have h0 := hj 0 (by omega)
    have h1 := cell_of_row w g (k * 10 + 0) _ _ _ hb
    rw [h1] at h0
    cases k with
    | zero =>
      have h0 : some (Value.bool j) = some (.int .i64 (kindOf (ys.getD 0 noY).1)) := h0
      cases h0
    | succ k =>
      rw [List.getElem?_toArray, List.getElem?_eq_none (by simp; omega)] at h0
      have h0 : (none : Option Value) = some (.int .i64 (kindOf (ys.getD (k + 1) noY).1)) := h0
      cases h0
  refine ⟨g, e, by have := ho.size; omega, fun j h10 => ?_⟩
  rw [World.cell?_of_block (w := w) (a := ⟨g, k * 10 + j, none⟩) (ho.block g hg hne)]
  exact hj j h10
theorem tyI_kind {d : Nat} : ∀ {l : List ItT} {lt : List Nat}, TyI d lt l → lt.length = 10 → ∀ x ∈ l, (x.kind = 11 ∨ x.kind = 12 ∨ x.kind = 13) ∧ x.wh ≤ 255
  | [], _, _, _ => by simp
  | x :: r, lt, h, hl => by
    obtain ⟨h1, h2, h3⟩ := h
    intro y hy
    simp only [List.mem_cons] at hy
    rcases h3 with ⟨hk, hx, hT⟩ | ⟨hk, _, hx, hT⟩
    · rcases hy with rfl | hy
      · exact ⟨.inl hk, by omega⟩
      · exact tyI_kind hT (by simpa using hl) y hy
    · rcases hy with rfl | hy
      · exact ⟨.inr hk, hx⟩
      · exact tyI_kind hT hl y hy
/-- What the loop keeps. -/
structure CoL (d : Nat) (L : List ItT) (w2 wr : World) (lp : Nat) (jmp : Bool) (vi : Value) (k : Nat) : Prop where
  ly : LyW (fun g => g = lp) w2 wr lp jmp vi (laidF jmp d (L.take k) []) (depF jmp d (L.take k) 0) (celF (L.take k) 0)
theorem CoL.below {d : Nat} {L : List ItT} {w2 wr w' : World} {lp : Nat} {jmp : Bool} {vi : Value} {k : Nat} (h : CoL d L w2 wr lp jmp vi k) (hb : Below wr.heap.size wr w') : CoL d L w2 w' lp jmp vi k := ⟨h.ly.below hb⟩
/-- An item more. -/
theorem CoL.next {d : Nat} {L : List ItT} {w2 wr w' : World} {lp : Nat} {jmp : Bool} {vi : Value} {k : Nat} {x : ItT} (h : CoL d L w2 wr lp jmp vi k) (hx : L[k]? = some x) (ho : LyOut wr w' lp jmp vi (laidF jmp d (L.take k) [] ++ iE jmp d x (laidF jmp d (L.take k) []).length) (max (depF jmp d (L.take k) 0) (iD jmp d x)) (if x.kind = 11 then x.wh + 1 else celF (L.take k) 0)) : ∃ v', CoL d L w2 w' lp jmp v' (k + 1) := by
  obtain ⟨v', h1, _⟩ := h.ly.next ho
  refine ⟨v', ⟨?_⟩⟩
  rw [laidF_more hx, depF_more hx, celF_more hx]
  exact h1
/-- An item can be laid. -/
theorem CoL.lay {d : Nat} (hd : d ≤ 24) {L : List ItT} {w2 wr : World} {lp b : Nat} {jmp : Bool} {vi : Value} {k : Nat} {x : ItT} (h : CoL d L w2 wr lp jmp vi k) (hx : L[k]? = some x) (hT : TyI d zeros10 L) (hn : cntI d L ≤ 200) (hl : L.length ≤ 30) (ht : TrF (fun g => g = lp) d w2 b x.c) {a1 a2 a3 a4 a5 a6 a7 : Value} (o1 : a1.oneCell' = true) (o2 : a2.oneCell' = true) (o3 : a3.oneCell' = true) (o4 : a4.oneCell' = true) (o5 : a5.oneCell' = true) (o6 : a6.oneCell' = true) (o7 : a7.oneCell' = true) :
    Calls Tryz.prog 92 #[.pointer (some ⟨lp, 0, none⟩), .agg #[.int .i64 x.kind, a1, a2, a3, a4, a5, a6, a7, .int .i64 x.wh, .pointer (some ⟨b, 0, none⟩)]] wr fun e w' => e = .returned (.tuple #[]) ∧ ∃ v', CoL d L w2 w' lp jmp v' (k + 1) := by
  have hm : x ∈ L := List.mem_of_getElem? hx
  obtain ⟨hk, hw⟩ := tyI_kind hT rfl x hm
  have hwf := tyI_wf hT
  have hs := laidF_len (jmp := jmp) (d := d) (L := L.take k) (l := []) (fun y hy => hwf y (List.mem_of_mem_take hy))
  have hi := iS_cnt (jmp := jmp) (hwf x hm)
  have hc := cntI_take (d := d) L k
  have hc2 := cntI_take (d := d) L (k + 1)
  rw [take_more hx] at hc2
  have e2 : cntI d (L.take k ++ [x]) = cntI d (L.take k) + cntT d x.c := by simp [cntI]
  have hlk : (L.take k).length ≤ 30 := by rw [List.length_take]; omega
  have hdp : depF jmp d (L.take k) 0 ≤ 24 := by rw [depF_dp]; have := dpI_le jmp d (L.take k); omega
  simp only [List.length_nil] at hs
  exact (layItem_any o1 o2 o3 o4 o5 o6 o7 hk hw (hwf x hm) ht h.ly (by omega) (by omega) (by omega)).mono fun e w' hh => ⟨hh.1, h.next hx hh.2⟩
set_option maxHeartbeats 8000000 in
theorem ccompile_any {n : Int} {d : Nat} (hd : d ≤ 24) {l : List ItT} {ys : List Yt} {v : Value} {w : World} (hv : RowF w v ys) (hI : ItsF (fun g => w.heap.size ≤ g) d w l ys) (hT : TyI d zeros10 l) (hS : SeqI 0 l) (hn : cntI d l ≤ 200) (hl : l.length ≤ 30) :
    Calls Tryz.prog 44 #[v, .int .i64 n] w fun e w' => e = .returned (S (compOf (passOf n) d l)) ∧ Below w.heap.size w w' := by
  have hlen : l.length = ys.length := hI.1
  obtain ⟨L, hL⟩ : ∃ L, rewT (passOf n) d l = L := ⟨_, rfl⟩
  obtain ⟨ls, hls⟩ : ∃ ls, laidF (passOf n).jmp d L [] ++ [⟨18, 0, 0⟩] = ls := ⟨_, rfl⟩
  obtain ⟨hC, hC1, hC2, hC3, hC4, hC5, hC6, hC7⟩ := laid_code hd hT hS hn hl hL hls
  have ej : (passOf n).jmp = bitB n 8 := rfl
  have eb : bitB n 8 = (bits .and .i64 n 8 != 0) := rfl
  have hbA : Below w.heap.size w (w.alloc (.cells #[.bool (bitB n 8), .slice none 0 0, .int .i64 0, .int .i64 0] 194)) := (Below.refl _ _).alloc (Nat.le_refl _) _
  have hblk : (w.alloc (.cells #[.bool (bitB n 8), .slice none 0 0, .int .i64 0, .int .i64 0] 194)).heap[w.heap.size]? = some (.cells #[.bool (bitB n 8), .slice none 0 0, .int .i64 0, .int .i64 0] 194 (0, 0)) := heap_alloc_new w _
  generalize hwA : w.alloc (.cells #[.bool (bitB n 8), .slice none 0 0, .int .i64 0, .int .i64 0] 194) = wA at *
  have hlt := lt_of_get hblk
  have W1 := rewrite_any (F := fun g => g = w.heap.size) (n := n) zeros_fields (hv.below hbA) (hI.map fun _ _ t => (t.more (fun g _ (e : g = w.heap.size) => by omega)).below hbA) (fun g (e : g = w.heap.size) => by omega) (by omega) hT hS
  have HW : Hid _ := hwA
  rw [hL] at W1
  have hvo : v.oneCell' = true := by obtain ⟨a, c, rfl, _⟩ := hv; rfl
  clear hwA hI hv
  have HB : Hid _ := hblk
  go_enter Tryz.func44, Tryz.ntmps44
  go_wp2_with fail
  rw [← eb, HW.out]
  refine W1.mono ?_
  rintro e w2 ⟨v', ys', rfl, hr, hi, hb2, hyl⟩
  obtain ⟨a, cap, rfl, hq⟩ := hr
  go_wp2_with fail
  have hblk2 := (hb2.block _ hlt).trans HB.out
  have HR2 : Hid (RowF w2 (.slice a ys'.length cap) ys') := ⟨a, cap, rfl, hq⟩
  have HI2 : Hid _ := hi
  have HBL2 : Hid _ := hblk2
  have HB2 : Hid (Below w.heap.size w w2) := hbA.trans (hb2.mono hbA.size)
  have HC0 : Hid (CoL d L w2 w2 w.heap.size (bitB n 8) (.slice none 0 0) 0) := ⟨⟨⟨hblk2, World.ownsRow_nil _ _ _ _⟩, .inl rfl, fun g hg => by simp [Value.ownBlock] at hg, Only.refl _ _⟩⟩
  have HCC : Hid _ := And.intro hC (And.intro hC1 (And.intro hC2 (And.intro hC3 hC4)))
  have HLL : Hid _ := hls
  have hll : L.length = ys'.length := hi.1
  clear hblk2 hq hi W1 hb2 hbA hblk HW HB hC hC2 hC1 hC3 hC4 hls hlt
  go_wp2_with fail
  go_loopw [17] (fun (iv : Value) wr => ∃ (k : Nat) (vi : Value), k ≤ ys'.length ∧ iv = .int .i64 k ∧ Hid (CoL d L w2 wr w.heap.size (bitB n 8) vi k)) (fun iv _ => ys'.length - (intOf iv).toNat)
  case atStart => exact ⟨0, _, Nat.zero_le _, rfl, HC0.out⟩
  case round =>
    obtain ⟨k, vi, hk, rfl, HX⟩ := hrel
    by_cases hlt : k < ys'.length
    · have hX := HX.out
      obtain ⟨a2, cap2, e2, hc2⟩ := RowF.only HR2.out hX.ly.bel HBL2.out
      simp only [Value.slice.injEq, true_and] at e2
      obtain ⟨rfl, rfl⟩ := e2
      obtain ⟨g, rfl, hgl, hcells⟩ := hc2 k hlt
      have hIt := HI2.out.2 k hlt
      have hgx : L[k]? = some (L.getD k noIt) := by rw [List.getD_eq_getElem?_getD, List.getElem?_eq_getElem (by omega)]; rfl
      generalize L.getD k noIt = x at *
      generalize ys'.getD k noY = y at *
      obtain ⟨t0, u0, b, wh⟩ := y
      have hkd : kindOf t0 = x.kind := hIt.kd
      have hwh : wh = (x.wh : Int) := hIt.wh
      have htr : TrF (fun g => g = w.heap.size) d w2 b x.c := hIt.tr
      subst hwh
      have c0 : wr.cell? ⟨g, k * 10, none⟩ = some (.int .i64 x.kind) := by rw [← hkd]; exact hcells 0 (by omega)
      have c1 : wr.cell? ⟨g, k * 10 + 1, none⟩ = some (.int .i64 t0.pl) := hcells 1 (by omega)
      have c2 : wr.cell? ⟨g, k * 10 + 2, none⟩ = some (.int .i64 (nmOf t0)) := hcells 2 (by omega)
      have c3 : wr.cell? ⟨g, k * 10 + 3, none⟩ = some (S (ownOf t0)) := hcells 3 (by omega)
      have c4 : wr.cell? ⟨g, k * 10 + 4, none⟩ = some (.int .i64 (kindOf u0)) := hcells 4 (by omega)
      have c5 : wr.cell? ⟨g, k * 10 + 5, none⟩ = some (.int .i64 u0.pl) := hcells 5 (by omega)
      have c6 : wr.cell? ⟨g, k * 10 + 6, none⟩ = some (.int .i64 (nmOf u0)) := hcells 6 (by omega)
      have c7 : wr.cell? ⟨g, k * 10 + 7, none⟩ = some (S (ownOf u0)) := hcells 7 (by omega)
      have c8 : wr.cell? ⟨g, k * 10 + 8, none⟩ = some (.int .i64 (x.wh : Nat)) := hcells 8 (by omega)
      have c9 : wr.cell? ⟨g, k * 10 + 9, none⟩ = some (.pointer (some ⟨b, 0, none⟩)) := hcells 9 (by omega)
      have hkb : (0 : Int) ≤ (k : Int) ∧ (k : Int) < (ys'.length : Int) := by omega
      have hbA : Below wr.heap.size wr (wr.alloc (.cells #[.int .i64 x.kind, .int .i64 t0.pl, .int .i64 (nmOf t0), S (ownOf t0), .int .i64 (kindOf u0), .int .i64 u0.pl, .int .i64 (nmOf u0), S (ownOf u0), .int .i64 (x.wh : Nat), .pointer (some ⟨b, 0, none⟩)] 163)) := (Below.refl _ _).alloc (Nat.le_refl _) _
      have W2 := (hX.below hbA).lay hd hgx hC5 hC6 hC7 htr (a1 := .int .i64 t0.pl) (a2 := .int .i64 (nmOf t0)) (a3 := S (ownOf t0)) (a4 := .int .i64 (kindOf u0)) (a5 := .int .i64 u0.pl) (a6 := .int .i64 (nmOf u0)) (a7 := S (ownOf u0)) rfl rfl rfl rfl rfl rfl rfl
      clear hcells hIt hgx htr hX HX hbA hc2 hgl hkd
      go_wp2_with fail
      refine W2.mono ?_
      rintro e w3 ⟨rfl, v3, h3⟩
      have HN : Hid _ := h3
      clear W2 h3 c0 c1 c2 c3 c4 c5 c6 c7 c8 c9
      go_wp2_with fail
      go_roundw
      case rel => exact ⟨k + 1, v3, by omega, by go_num, HN.out⟩
      case measure => simp [intOf]; omega
    · obtain rfl : k = ys'.length := by omega
      have hX := HX.out
      have hly := hX.ly
      rw [List.take_of_length_le (by omega)] at hly
      obtain ⟨hC, hC1, hC2, hC3, hC4⟩ := HCC.out
      have hlen1 : (laidF (bitB n 8) d L []).length + 1 = ls.length := by rw [← HLL.out]; simp [ej]
      have W2 := add_any 18 0 hly.at_ (by omega)
      have HLY : Hid _ := hly
      clear hX HX hly hC hC1 hC2 hC3 hC4
      go_wp2_with fail
      refine W2.mono ?_
      rintro e w3 ⟨rfl, ho3⟩
      obtain ⟨v3, h3, _⟩ := HLY.out.next ho3
      have e3 : laidF (bitB n 8) d L [] ++ [⟨18, 0, 0⟩] = ls := HLL.out
      rw [e3] at h3
      obtain ⟨hC, hC1, hC2, hC3, hC4⟩ := HCC.out
      rw [ej] at hC hC3
      have W3 := fun W (hb : Below w3.heap.size w3 W) => write_any (dep := depF (bitB n 8) d L 0) (cells := celF L 0) (h3.below hb).at_.ins (by omega) hC2 (by omega) (by omega)
      rw [hC] at W3
      obtain ⟨va, vcap, hva⟩ := rowSl h3.at_.row
      subst hva
      have P1 : ∀ W, Below w3.heap.size w3 W → W.cell? ⟨w.heap.size, 1, none⟩ = some (.slice va ls.length vcap) := fun W hb => cell_of_row W _ 1 _ _ _ (h3.below hb).at_.blk
      have P2 : ∀ W, Below w3.heap.size w3 W → W.cell? ⟨w.heap.size, 2, none⟩ = some (.int .i64 (depF (bitB n 8) d L 0 : Nat)) := fun W hb => cell_of_row W _ 2 _ _ _ (h3.below hb).at_.blk
      have P3 : ∀ W, Below w3.heap.size w3 W → W.cell? ⟨w.heap.size, 3, none⟩ = some (.int .i64 (celF L 0 : Nat)) := fun W hb => cell_of_row W _ 3 _ _ _ (h3.below hb).at_.blk
      have HF : Hid (Below w.heap.size w w3) := HB2.out.trans (h3.bel.below HB2.out.size (fun k _ hk => by have hk : k = w.heap.size := hk; omega))
      have hS0 : Below w3.heap.size w3 w3 := Below.refl _ _
      have KD : Hid (∀ W : World, Below w3.heap.size w3 W → Below w3.heap.size w3 W.drew) := fun W h => h.drew
      have KB : Hid (∀ W W' : World, Below w3.heap.size w3 W → Below W.heap.size W W' → Below w3.heap.size w3 W') := fun W W' h h' => h.trans (h'.mono h.size)
      clear W2 ho3 h3 e3 hC hC1 hC2 hC3 hC4 HLY hlen1
      generalize hcb : compOf (passOf n) d l = cb at *
      have HCB : Hid _ := hcb
      clear hcb
      generalize depF (bitB n 8) d L 0 = dp at *
      generalize celF L 0 = cl at *
      go_wp2_with fail
      go_region_held3 (fun W => Below w3.heap.size w3 W) (first | assumption | exact KB.out _ _ (by assumption) hb4 | exact KD.out _ hS0 | exact KD.out _ (by assumption) | go_keep)
        (first
          | (go_at_call 94; refine (W3 _ (by assumption)).mono ?_; rintro e w4 ⟨rfl, hb4⟩))
      all_goals
        rename_i hHeld
        go_wp2_with fail
        go_ret
        exact ⟨by rw [HCB.out]; rfl, HF.out.trans (hHeld.mono HF.out.size)⟩
theorem pcompile_any {bs : Nat} {L : List Pt} {xs : List Itm} {base : Nat} {v : Value} {ys : List Yt} {w : World} {n : Int} (h : PolAt bs L xs base v ys w) (hM : MeanOK L xs) :
    Calls Tryz.prog 44 #[v, .int .i64 n] w fun e w' => e = .returned (S (compOf (passOf n) 24 (polT L xs))) ∧ Below w.heap.size w w' := by
  obtain ⟨h1, h2, h3⟩ := pol_mem h hM
  exact ccompile_any (Nat.le_refl _) h1 h2 h3.ty h3.seq (by rw [h3.cnt]; exact h3.few.1) (by rw [h3.len]; exact h3.few.2)
end Go.Proofs.YtfkdailfcmnjlaaGreatDoor

namespace Go.Proofs.YtfkdailfcmnjlaaGreatDoor
open Go Go.RowKit
set_option maxRecDepth 100000
attribute [local go_sem ↓] Go.wp_at_zero Go.wp_at_succ

/-- What Compile gives of a text. -/
def codeOf (l : List UInt8) (n : Int) : List UInt8 := if (readOf l).1.1 = 0 then compOf (passOf n) 24 (polT (readOf l).2.1 (readOf l).2.2) else []
set_option maxHeartbeats 2000000 in
theorem gcompile_any (l : List UInt8) (m : Int) (w : World) (hW : Wd w) (hm : l.length ≤ maxLen) : Calls Tryz.prog 23 #[S l, .int .i64 m] w fun e w' => e = .returned (.tuple #[S (codeOf l m), .int .i64 (readOf l).1.1, .int .i64 (readOf l).1.2]) ∧ Below w.heap.size w w' := by
  have HR := pread_any l w hW hm
  have HK : Hid ((readOf l).1.1 = 0 → MeanOK (readOf l).2.1 (readOf l).2.2) := mean_known l
  have HX : Hid (codeOf l m = if (readOf l).1.1 = 0 then compOf (passOf m) 24 (polT (readOf l).2.1 (readOf l).2.2) else []) := rfl
  have HZ : Hid ((readOf l).1.1 = 0 → (readOf l).1.2 = 0) := read_zero l
  have hb := read_bound l
  clear hW
  generalize codeOf l m = r at *
  generalize (readOf l).1.1 = n at *
  generalize (readOf l).1.2 = k at *
  generalize (readOf l).2.1 = L at *
  generalize (readOf l).2.2 = xs at *
  go_enter Tryz.func23, Tryz.ntmps23
  go_wp2_with fail
  refine HR.mono ?_
  rintro e w1 ⟨hf, v, rfl, hv⟩
  clear HR
  by_cases h0 : n = 0
  · obtain ⟨bs, ys, hbs, hP⟩ := hv h0
    have hk := HK.out h0
    have W1 := pcompile_any (n := m) hP hk
    have HX2 : Hid (r = compOf (passOf m) 24 (polT L xs)) := by show _ = _; rw [HX.out, if_pos h0]
    have HZ2 : Hid _ := HZ.out h0
    have HF : Hid _ := hf
    clear hv hP hk HK HX HZ hf
    subst h0
    generalize compOf (passOf m) 24 (polT L xs) = pr at *
    go_wp2_with fail
    refine W1.mono ?_
    rintro e w2 ⟨rfl, hb2⟩
    clear W1
    go_wp2_with fail
    refine bodyPost_ret (v := .tuple #[S pr, .int .i64 0, .int .i64 0]) (by simp [results, Tryz.results23, go_sem]) rfl ?_
    exact ⟨by rw [HX2.out, HZ2.out]; rfl, HF.out.trans (hb2.mono HF.out.size)⟩
  · have e1 : ((n : Int) == 0) = false := by
      have : ¬ (n : Int) = 0 := by omega
      simpa using this
    have e2 : ((n : Int) != 0) = true := by
      have : ¬ (n : Int) = 0 := by omega
      simpa using this
    have HX2 : Hid (r = []) := by show _ = _; rw [HX.out, if_neg h0]
    have HF : Hid _ := hf
    clear hv HK HX HZ hf h0
    go_wp2_with fail
    refine bodyPost_ret (v := .tuple #[S [], .int .i64 n, .int .i64 k]) (by simp [results, Tryz.results23, go_sem]) rfl ?_
    exact ⟨by rw [HX2.out], HF.out⟩
/-- Bits of a number that stand for nothing. -/
theorem and15 (n : Int) (k : Nat) (hk : BitVec.ofInt 64 15 &&& BitVec.ofInt 64 k = BitVec.ofInt 64 k) : bits .and .i64 (bits .and .i64 n 15) k = bits .and .i64 n k := by
  have h : BitVec.ofInt 64 (bits .and .i64 n 15) = BitVec.ofInt 64 n &&& BitVec.ofInt 64 15 := by
    have e : bits .and .i64 n 15 = IntKind.i64.wrap ((BitVec.ofInt 64 n &&& BitVec.ofInt 64 15).toNat) := rfl
    have hl : (BitVec.ofInt 64 n &&& BitVec.ofInt 64 15).toNat ≤ 15 := by
      rw [BitVec.toNat_and]
      exact Nat.le_trans Nat.and_le_right (by decide)
    have hw : IntKind.i64.wrap ((BitVec.ofInt 64 n &&& BitVec.ofInt 64 15).toNat) = (((BitVec.ofInt 64 n &&& BitVec.ofInt 64 15).toNat : Nat) : Int) := by
      rw [IntKind.wrap_i64]; omega
    rw [e, hw, BitVec.ofInt_natCast, BitVec.ofNat_toNat, BitVec.setWidth_eq]
  have e : bits .and .i64 (bits .and .i64 n 15) k = IntKind.i64.wrap ((BitVec.ofInt 64 (bits .and .i64 n 15) &&& BitVec.ofInt 64 k).toNat) := rfl
  rw [e, h, BitVec.and_assoc, hk]
  rfl
theorem pass15 (n : Int) : passOf (bits .and .i64 n 15) = passOf n := by
  unfold passOf bitB
  rw [and15 n 1 (by decide), and15 n 2 (by decide), and15 n 4 (by decide), and15 n 8 (by decide)]
theorem code15 (l : List UInt8) (n : Int) : codeOf l (bits .and .i64 n 15) = codeOf l n := by
  unfold codeOf; rw [pass15]
/-- The code of a plain form is that of the text. -/
theorem code_again (l : List UInt8) (n : Int) (h0 : (readOf l).1.1 = 0) (hl : (textOf l).length ≤ 1000) : codeOf (textOf l) n = codeOf l n := by
  have h1 := (text_again l h0 hl).1
  unfold codeOf
  rw [if_pos h0, if_pos (by rw [h1]), pol_again l h0 hl]
/-- What a code says: it is one, is not too long, judges as the policy means. -/
theorem code_says (l : List UInt8) (n : Int) (h0 : (readOf l).1.1 = 0) : ∃ ins, loadOf (codeOf l n) = some ins ∧ (codeOf l n).length ≤ 13 * (readOf l).2.1.length + 2 * (readOf l).2.2.length + 5 ∧ ∀ fl, FieldsOK fl → ∃ s, judgeOf (codeOf l n) ins fl = some ((meanOf l fl).1, (meanOf l fl).2, s) := by
  have hp := pol_t (mean_known l h0) (many_known l h0)
  obtain ⟨ins, h1, h2, h3⟩ := compOf_ok (p := passOf n) (d := 24) (Nat.le_refl _) hp.ty hp.seq (by rw [hp.cnt]; exact hp.few.1) (by rw [hp.len]; exact hp.few.2)
  unfold codeOf meanOf
  rw [if_pos h0]
  refine ⟨ins, h1, by rw [hp.cnt, hp.len] at h2; exact h2, fun fl hF => ?_⟩
  obtain ⟨s, hs⟩ := h3 fl (fields_t hF)
  refine ⟨s, ?_⟩
  rw [if_pos h0, hs, hp.mean fl hF]
end Go.Proofs.YtfkdailfcmnjlaaGreatDoor
