/-
  Zeros are appended tw a row of numbers. What is learnt of a cell. Clones of rows and of sets. Are two stacks the same? What two ways know. What is known on two ways that come tw one place. What an effect does tw a set. What an instruction does tw what is known: fields, cells, the sign '='.
-/
import Derived.Test.YtfkdailfcmnjlaaGreatDoorCompiles01
import Derived.Test.YtfkdailfcmnjlaaGreatDoorCompiles02
import Derived.Test.YtfkdailfcmnjlaaGreatDoorCompiles04
import Derived.Test.YtfkdailfcmnjlaaGreatDoorCompiles05
import Derived.Test.YtfkdailfcmnjlaaGreatDoorCompiles06
import Derived.Test.YtfkdailfcmnjlaaGreatDoorCompiles07
import Derived.Test.YtfkdailfcmnjlaaGreatDoorCompiles08
import Derived.Test.YtfkdailfcmnjlaaGreatDoorCompiles09
import Derived.Test.YtfkdailfcmnjlaaGreatDoorCompiles10
import Derived.Test.YtfkdailfcmnjlaaGreatDoorCompiles11
import Derived.Test.YtfkdailfcmnjlaaGreatDoorCompiles12
import Derived.Test.YtfkdailfcmnjlaaGreatDoorCompiles13
import Derived.Test.YtfkdailfcmnjlaaGreatDoorCompiles14
import Derived.Test.YtfkdailfcmnjlaaGreatDoorCompiles15
import Derived.Test.YtfkdailfcmnjlaaGreatDoorCompiles16
import Derived.Test.YtfkdailfcmnjlaaGreatDoorCompiles17
import Derived.Test.YtfkdailfcmnjlaaGreatDoorCompiles18
import Derived.Test.YtfkdailfcmnjlaaGreatDoorCompiles19
import Derived.Test.YtfkdailfcmnjlaaGreatDoorCompiles20
import Derived.Test.YtfkdailfcmnjlaaGreatDoorCompiles21
import Derived.Test.YtfkdailfcmnjlaaGreatDoorCompiles22
import Derived.Test.YtfkdailfcmnjlaaGreatDoorCompiles23
import Derived.Test.YtfkdailfcmnjlaaGreatDoorCompiles24
import Derived.Test.YtfkdailfcmnjlaaGreatDoorCompiles28
import Derived.Test.YtfkdailfcmnjlaaGreatDoorCompiles29
import Derived.Test.YtfkdailfcmnjlaaGreatDoorCompiles30
import Derived.Test.YtfkdailfcmnjlaaGreatDoorCompiles31
import Derived.Test.YtfkdailfcmnjlaaGreatDoorCompiles32
import Derived.Test.YtfkdailfcmnjlaaGreatDoorCompiles34
import Derived.Test.YtfkdailfcmnjlaaGreatDoorCompiles35
import Derived.Test.YtfkdailfcmnjlaaGreatDoorCompiles37
import Derived.Test.YtfkdailfcmnjlaaGreatDoorLays
import Derived.Test.YtfkdailfcmnjlaaGreatDoorLays2
import Derived.Lib.AppendZerosOnto
import Derived.WalkKit
import Derived.Deep.QuietTactic
import Derived.BigQuiet
import Derived.WalkSpells
import GoSem.Op.String
import Derived.Deep.AppendLies
import Derived.Deep.RegionHeld3
import Derived.Deep.DrawnRows
import Derived.Deep.RegionHeldLaw
import Derived.Deep.RegionLaw
import Derived.Lib.ParseIntBCases
import Derived.Deep.OwnRows
import Derived.Lib.LaidTab
import Derived.Lib.AppendIntMem
import Derived.Shelf.Strings.Builder1
import Derived.Laws.CopyOwn
import Derived.Deep.DeepCutAuto
import Derived.WalkSmall
set_option linter.unusedVariables false
set_option linter.unusedSimpArgs false
namespace Go.Proofs.YtfkdailfcmnjlaaGreatDoor
open Go Go.RowKit
set_option maxRecDepth 100000

theorem zeroCells_ints (k : Nat) : Builtin.zeroCells (Value.int .i64 0).cells k = (List.replicate k (Value.int .i64 0)).toArray := by
  have e : (Value.int .i64 0).cells = #[Value.int .i64 0] := rfl
  rw [e]
  apply Array.ext
  · simp [Builtin.zeroCells]
  · intro j h1 h2
    simp [Builtin.zeroCells, Nat.mod_one]
theorem run_zeros_room {P : Program} (w : World) (t tn ty e : TypeId) (i : TypeInfo) (kq kn : IntKind) (ht : P.underlying t = some (.slice e)) (htn : P.underlying tn = some (.int kn)) (hi : P.info? e = some i) (hz : i.zero = some (.int .i64 0)) (hs : i.size = 1) (hb : i.bytes = 8)
    (g sLen sCap : Nat) (cur : Array Value) (hg : w.heap[g]? = some (.cells cur e (0, 0))) (k : Nat) (h0 : 0 < k) (hk : k ≤ 100000) (hroom : sLen + k ≤ sCap) (hfit : sLen + k ≤ cur.size) :
    (Builtin.append_ #[t, tn] ty #[.slice (some ⟨g, 0, none⟩) sLen sCap, .int kq k]).run P w =
      .ok (.slice (some ⟨g, 0, none⟩) (sLen + k) sCap) (w.setRow g (cur.toList.take sLen ++ List.replicate k (Value.int .i64 0) ++ cur.toList.drop (sLen + k)).toArray) := by
  have hk' : k ≠ 0 := by omega
  have hw : IntKind.i64.wrap (k : Int) = k := by rw [IntKind.wrap_i64]; omega
  have hneg : ¬ ((k : Int) < 0) := by omega
  have h48i : ¬ (281474976710656 < (k : Int) * 8) := by omega
  have hst := run_storeCells_at P g sLen e (List.replicate k (Value.int .i64 0)) 0 cur w hg (by simpa using hfit) (fun u hu => by rw [List.eq_of_mem_replicate hu]; rfl)
  simp only [Nat.add_zero, List.length_replicate] at hst
  have hzc := zeroCells_ints k
  simp [Builtin.append_, run_underlying ht, run_underlying htn, sizeOf, typeInfo, zeroValue, hi, hz, hs, hb, asInt, asIntOf, hw, hneg, h48i, hk', hroom, hzc, Addr.add_lit, hst]
theorem run_append_zeros {P : Program} (w : World) (t tn ty e : TypeId) (i : TypeInfo) (kq kn : IntKind) (ht : P.underlying t = some (.slice e)) (htn : P.underlying tn = some (.int kn)) (hi : P.info? e = some i) (hz : i.zero = some (.int .i64 0)) (hs : i.size = 1) (hb : i.bytes = 8)
    {v : Value} {l : List Int} (h : IR w e v l) (k : Nat) (h0 : 0 < k) (hk : l.length + k ≤ 100000) :
    ∃ g cap w', (Builtin.append_ #[t, tn] ty #[v, .int kq k]).run P w = .ok (.slice (some ⟨g, 0, none⟩) (l.length + k) cap) w' ∧ IR w' e (.slice (some ⟨g, 0, none⟩) (l.length + k) cap) (l ++ List.replicate k 0) ∧ w.grownBy w' v.ownBlock ∧ (v.ownBlock = some g ∨ g = w.heap.size) ∧ g < w'.heap.size := by
  have hlen : (l ++ List.replicate k (0 : Int)).length = l.length + k := by simp
  have hmap : (l ++ List.replicate k (0 : Int)).map (Value.int .i64) = l.map (Value.int .i64) ++ List.replicate k (Value.int .i64 0) := by simp
  have grown : ∀ (old : Nat) (row : Option Nat),
      IR (w.drew.alloc (.cells ((l.map (Value.int .i64)).toArray ++ Builtin.zeroCells (Value.int .i64 0).cells k ++ Builtin.zeroCells (Value.int .i64 0).cells (grownCap w (l.length + k) old e - (l.length + k))) e)) e (.slice (some ⟨w.heap.size, 0, none⟩) (l.length + k) (grownCap w (l.length + k) old e)) (l ++ List.replicate k 0) ∧
      w.grownBy (w.drew.alloc (.cells ((l.map (Value.int .i64)).toArray ++ Builtin.zeroCells (Value.int .i64 0).cells k ++ Builtin.zeroCells (Value.int .i64 0).cells (grownCap w (l.length + k) old e - (l.length + k))) e)) row := by
    intro old row
    have hge := grownCap_ge w (l.length + k) old e
    have hcm : grownCap w (l.length + k) old e ≤ maxLen := grownCap_le_maxLen w (l.length + k) old e (by unfold maxLen; omega)
    refine ⟨⟨by simp, .inr ⟨w.heap.size, _, _, by rw [hlen], Nat.zero_le _, heap_alloc_new w.drew _, by rw [hlen]; exact hge, hcm, ?_, ?_⟩⟩, ⟨rfl, rfl, rfl, by simp, fun k hk _ => Below.heap_alloc w.drew _ k hk⟩⟩
    · have e1 : (Value.int .i64 0).cells.size = 1 := rfl
      simp only [Array.size_append, List.size_toArray, size_zeroCells, e1, List.length_map]
      omega
    · rw [zeroCells_ints k, hmap, hlen]
      simp only [Array.toList_append]
      exact List.take_left' (by simp)
  rcases h.2 with ⟨rfl, h2⟩ | ⟨g, cap, cur, rfl, hbg, hg, hnc, hcm, hcs, htake⟩
  · have hl0 : l = [] := List.eq_nil_of_length_eq_zero h2
    subst hl0
    have hr := Lib.run_append_nil_zeros (P := P) w t tn ty e i (.int .i64 0) kq kn ht htn hi hz k h0 (by omega) (by omega) (by rw [hb]; omega)
    have hgr := grown 0 (Value.ownBlock (.slice none 0 0))
    simp only [List.length_nil, Nat.zero_add, List.map_nil, List.nil_append, Array.empty_append] at hgr ⊢
    exact ⟨_, _, _, hr, hgr.1, hgr.2, .inr rfl, by simp⟩
  · by_cases hroom : l.length + k ≤ cap
    · have hr := run_zeros_room (P := P) w t tn ty e i kq kn ht htn hi hz hs hb g l.length cap cur hg k h0 (by omega) hroom (by omega)
      refine ⟨_, _, _, hr, ⟨by simp, .inr ⟨g, cap, _, by rw [hlen], hbg, setRow_heap w g cur _ e _ hg, by rw [hlen]; exact hroom, hcm, ?_, ?_⟩⟩, ⟨rfl, rfl, rfl, by simp, fun k _ hk => setRow_other w g k _ (fun e => hk (by simp [Value.ownBlock, e]))⟩, .inl rfl, ?_⟩
      · simp only [List.size_toArray, List.length_append, List.length_take, List.length_drop, Array.length_toList, List.length_replicate]
        omega
      · rw [Nat.mul_one] at htake
        rw [htake, hmap, hlen]
        exact List.take_left' (by simp)
      · simpa using lt_of_get hg
    · have hold : (Builtin.firstCells i.size l.length (.slice (some ⟨g, 0, none⟩) l.length cap)).run P w.drew = .ok (l.map (Value.int .i64)).toArray w.drew := by
        have hr : w.drew.ownsRow 0 e 1 (.slice (some ⟨g, 0, none⟩) l.length cap) l.length (l.map (Value.int .i64)) := h
        exact run_firstCells_some (P := P) w.drew i.size l.length ⟨g, 0, none⟩ l.length cap _ (by rw [hs]; simp) (hr.cells (g := g) rfl)
      have hr := Lib.run_append_grow_zeros (P := P) w t tn ty e i (.int .i64 0) kq kn ht htn hi hz (some ⟨g, 0, none⟩) l.length cap (l.map (Value.int .i64)) hold k h0 (by omega) (by omega) (by omega) (by rw [hb]; omega) (growslice_fits (by omega) (by rw [hb]; omega))
      have hgr := grown cap (Value.ownBlock (.slice (some ⟨g, 0, none⟩) l.length cap))
      exact ⟨_, _, _, hr, hgr.1, hgr.2, .inr rfl, by simp⟩
theorem wpList_append_zeros {P : Program} {w : World} {ops : Array Oper} {rest : List Oper} {o : Oper} {a : Act} {Q : Exit → Act → World → Prop} (hgd : o.guard = none) (s x : Operand) (t tn : TypeId)
    (ho : o.op = .call { callee := .builtin .append, args := #[s, x], argTypes := #[t, tn] }) (e : TypeId) (i : TypeInfo) (kq kn : IntKind) (ht : P.underlying t = some (.slice e)) (htn : P.underlying tn = some (.int kn)) (hi : P.info? e = some i) (hz : i.zero = some (.int .i64 0)) (hs : i.size = 1) (hb : i.bytes = 8)
    {v : Value} {l : List Int} (k : Nat) (hv : a.eval s = v) (hx : a.eval x = .int kq k) (h : IR w e v l) (h0 : 0 < k) (hk : l.length + k ≤ 100000)
    (hK : ∀ g cap w', IR w' e (.slice (some ⟨g, 0, none⟩) (l.length + k) cap) (l ++ List.replicate k 0) → w.grownBy w' v.ownBlock → (v.ownBlock = some g ∨ g = w.heap.size) → g < w'.heap.size → wpList P ops Q rest (a.put o.dst (.slice (some ⟨g, 0, none⟩) (l.length + k) cap)) w') : wpList P ops Q (o :: rest) a w := by
  obtain ⟨g, cap, w', hr, h1, h2, h3, h4⟩ := run_append_zeros (P := P) w t tn o.type e i kq kn ht htn hi hz hs hb h k h0 hk
  exact Lib.wpList_append_run w hgd s x t tn ho v _ hv hx _ _ hr (hK g cap w' h1 h2 h3 h4)
end Go.Proofs.YtfkdailfcmnjlaaGreatDoor

namespace Go.Proofs.YtfkdailfcmnjlaaGreatDoor
open Go Go.RowKit
set_option maxRecDepth 100000
attribute [local go_sem ↓] Go.wp_at_zero Go.wp_at_succ

set_option maxHeartbeats 2000000 in
theorem slearn_any {w : World} {p : Nat} {vs vc : Value} {st c : List Int} (k : Nat) (x : Int) (h : SetAt w p vs vc st c) (hk : k ≤ 255) (hc : c.length ≤ 256) :
    Calls Tryz.prog 233 #[.pointer (some ⟨p, 0, none⟩), .int .i64 k, .int .i64 x] w fun e w' => e = .returned (.tuple #[]) ∧ SetOut w w' p vs vc st (learnL c k x) := by
  have hpc : w.cell? ⟨p, 1, none⟩ = some vc := by rw [cell_of_row w p 1 _ _ _ h.blk]; rfl
  have hpf : w.frozen? ⟨p, 1, none⟩ = false := by simp [World.frozen?, h.blk]
  have hlt := lt_of_get h.blk
  have hne := h.cl.ne h.blk ty_ne
  by_cases hkc : k < c.length
  · obtain ⟨g, cap, rfl, hg⟩ := h.cl.form (by omega)
    have hcc := h.cl.cell hkc
    have hcf := h.cl.frz k
    have e : learnL c k x = c.set k x := by unfold learnL; rw [show k + 1 - c.length = 0 by omega]; simp
    rw [e]
    have hgp : g ≠ p := fun e => hne (by rw [e]; rfl)
    have HA : Hid (SetOut w (w.setCell ⟨g, k, none⟩ (.int .i64 x)) p vs (.slice (some ⟨g, 0, none⟩) c.length cap) st (c.set k x)) := by
      have ho : Only (fun b => b = g) w (w.setCell ⟨g, k, none⟩ (.int .i64 x)) := (Only.refl (fun b => b = g) w).setCell (.inl rfl) _
      refine ⟨vs, .slice (some ⟨g, 0, none⟩) c.length cap, ⟨(ho.block p hlt (fun e => hgp e.symm)).trans h.blk, h.st.only ho (fun b hb e => ?_), h.cl.set hkc x, h.ne⟩, ho.weak (fun i _ hi => ?_), fun b hb => .inl hb⟩
      · subst e; exact h.ne b hb rfl
      · subst hi; exact .inr (.inr rfl)
    generalize c.getD k 0 = y at *
    generalize c.length = n at *
    clear h hne
    go_enter Tryz.func233, Tryz.ntmps233
    go_wp2
    go_end0
    exact ⟨rfl, HA.out⟩
  · obtain ⟨d, rfl⟩ : ∃ d, k = c.length + d := ⟨k - c.length, by omega⟩
    have e : learnL c (c.length + d) x = (c ++ List.replicate (d + 1) 0).set (c.length + d) x := by unfold learnL; rw [show c.length + d + 1 - c.length = d + 1 by omega]
    rw [e]
    obtain ⟨a, cap, rfl⟩ := h.cl.sl
    obtain ⟨i0, hi, hz⟩ := Option.map_eq_some_iff.1 info_TType
    simp only [Prod.mk.injEq] at hz
    obtain ⟨hz0, hz1, hz2⟩ := hz
    have HE : Hid _ := e
    generalize hn : c.length = n at h hpc hc hk hkc hne HE ⊢
    have H : Hid _ := h
    have HN : Hid _ := hne
    have HNC : Hid _ := hn
    clear h hne e hn
    go_enter Tryz.func233, Tryz.ntmps233
    go_wp2_with (
      at_builtin
      go_must (refine wpList_append_zeros (by rfl) _ _ 219 3 (by rfl) 220 i0 .i64 .i64 Tryz.underlying219 Tryz.underlying3 hi hz0 hz1 hz2 (d + 1) (by rfl) (by simp [go_sem]; omega) H.out.cl (by omega) (by rw [HNC.out]; omega) ?_)
      rw [HNC.out]
      intro gg cap' w3 hown3 hgrow hat hlt3
      have hgp : gg ≠ p := by
        intro e
        rcases hat with h | h
        · exact HN.out (by rw [h, e])
        · omega
      have hcc := hown3.cell (k := n + d) (by simp [HNC.out])
      have hcf := hown3.frz (n + d)
      generalize ((c ++ List.replicate (d + 1) 0).getD (n + d) 0) = y at hcc
      have e0 : w3.heap[p]? = w.heap[p]? := (hgrow.block _ (by omega) (fun e => HN.out e.symm))
      have e1 := (World.cell?_of_block (a := ⟨p, 1, none⟩) e0).trans hpc
      have e2 := (World.frozen?_of_block (a := ⟨p, 1, none⟩) e0).trans hpf
      have HE0 : Hid _ := e0
      have HO3 : Hid _ := hown3
      have HG3 : Hid _ := hgrow
      clear e0 hown3 hgrow)
    go_end0
    refine ⟨rfl, ?_⟩
    have hO := HO3.out
    rw [show n + (d + 1) = (c ++ List.replicate (d + 1) (0 : Int)).length by rw [List.length_append, HNC.out, List.length_replicate]] at hO ⊢
    have h1 : IR w3 220 _ _ := hO
    have ho1 : Only (fun b => b = p) w3 (w3.setCell ⟨p, 1, none⟩ (.slice (some ⟨gg, 0, none⟩) (c ++ List.replicate (d + 1) (0 : Int)).length cap')) := (Only.refl (fun b => b = p) w3).setCell (.inl rfl) _
    have h2 := h1.only ho1 (fun g hg => by simp [Value.ownBlock] at hg; omega)
    have h3 := h2.set (j := n + d) (by simp [HNC.out]) x
    have hE : Only (Foot p vs (.slice a n cap)) w w3 := (Only.refl _ w).grown HG3.out (fun k hk => .inl (.inr (.inr hk)))
    have ho2 : Only (fun b => b = p ∨ b = gg) w3 ((w3.setCell ⟨p, 1, none⟩ (.slice (some ⟨gg, 0, none⟩) (c ++ List.replicate (d + 1) (0 : Int)).length cap')).setCell ⟨gg, n + d, none⟩ (.int .i64 x)) := ((Only.refl (fun b => b = p ∨ b = gg) w3).setCell (.inl (.inl rfl)) _).setCell (.inl (.inr rfl)) _
    have hgf : ∀ i, i < w.heap.size → i = gg → Foot p vs (.slice a n cap) i := fun i hi e => by
      subst e
      rcases hat with h | h
      · exact .inr (.inr h)
      · omega
    have hblk : w3.heap[p]? = _ := HE0.out.trans H.out.blk
    have hst : IR w3 220 vs st := ownsRow_of_block H.out.st (fun k hk => HG3.out.block k (H.out.st.lt k hk).2 (fun e => H.out.ne k hk e.symm))
    have hvg : vs.ownBlock ≠ some gg := fun e => by
      rcases hat with h | h
      · exact H.out.ne gg e h
      · have := (H.out.st.lt gg e).2; omega
    refine ⟨vs, .slice (some ⟨gg, 0, none⟩) (c ++ List.replicate (d + 1) (0 : Int)).length cap', ⟨?_, hst.only ho2 (fun g hg e => ?_), h3, fun b hb e => ?_⟩, hE.trans ho2 (fun _ _ h => h) (fun i hi h => ?_), fun b hb => ?_⟩
    · rw [Below.heap_setCell _ _ _ _ (by simpa using fun e => hgp e.symm), heap_setCell_same w3 p 1 _ _ _ hblk]; rfl
    · rcases e with e | e
      · subst e; exact H.out.st.ne H.out.blk ty_ne hg
      · subst e; exact hvg hg
    · simp [Value.ownBlock] at e; subst e; exact hvg hb
    · rcases h with h | h
      · exact .inl h
      · exact hgf i hi h
    · rcases hb with hb | hb | hb
      · exact .inl (.inl hb)
      · exact .inl (.inr (.inl hb))
      · simp [Value.ownBlock] at hb
        rcases hat with h | h
        · subst hb; exact .inl (.inr (.inr h))
        · right; omega
end Go.Proofs.YtfkdailfcmnjlaaGreatDoor

namespace Go.Proofs.YtfkdailfcmnjlaaGreatDoor
open Go Go.RowKit
set_option maxRecDepth 100000
attribute [local go_sem ↓] Go.wp_at_zero Go.wp_at_succ

set_option maxHeartbeats 2000000 in
theorem tclone_any {w : World} {v : Value} {l : List Int} (h : IR w 220 v l) (hl : l.length ≤ 5000) :
    Calls Tryz.prog 259 #[v] w fun e w' => ∃ v', e = .returned v' ∧ IR w' 220 v' l ∧ Below w.heap.size w w' ∧ ∀ b, v'.ownBlock = some b → w.heap.size ≤ b := by
  rcases h.2 with ⟨rfl, h2⟩ | ⟨g, cap, cur, rfl, hbg, hg, hnc, hcm, hcs, htake⟩
  · have hl0 : l = [] := List.eq_nil_of_length_eq_zero h2
    subst hl0
    clear h h2
    have hnil : ∀ w, (binOp .eql 219 (.slice none 0 0) (.slice none 0 0)).run Tryz.prog w = .ok (.bool true) w := fun w => Lib.run_eql_slice_nil w _ 220 none 0 0 0 0 Tryz.underlying219
    go_enter Tryz.func259, Tryz.ntmps259
    go_wp2
    go_ret
    exact ⟨_, rfl, IR.nil _ _, Below.refl _ _, fun b hb => by simp [Value.ownBlock] at hb⟩
  · obtain ⟨i0, hi, hz⟩ := Option.map_eq_some_iff.1 info_TType
    simp only [Prod.mk.injEq] at hz
    obtain ⟨hz0, hz1, hz2⟩ := hz
    have hnil : ∀ w, (binOp .eql 219 (.slice (some ⟨g, 0, none⟩) l.length cap) (.slice none 0 0)).run Tryz.prog w = .ok (.bool false) w := fun w => Lib.run_eql_slice_nil w _ 220 (some ⟨g, 0, none⟩) l.length cap 0 0 Tryz.underlying219
    have H : Hid _ := h
    have H0 : Hid _ := World.ownsRow_lit (base := w.heap.size) (e := 220) (size := 1) w #[] 0 (Nat.le_refl _) (by decide) rfl
    clear h hbg hg hnc hcm hcs htake
    go_enter Tryz.func259, Tryz.ntmps259
    go_wp2_with (
      at_builtin
      go_must (refine wpList_append_own_at _ (by rfl) _ _ 219 (by rfl) w.heap.size 220 i0 (.int .i64 0) 1 8 Tryz.underlying219 hi hz0 hz1 hz2 (by rfl) (by decide) _ _ _ (by rfl) H0.out ⟨g, 0, none⟩ l.length cap (l.map (Value.int .i64)) (by rfl) (by simp) (World.ownsRow.cells (H.out.alloc _) (g := g) rfl) (fun x hx => by simp at hx; obtain ⟨y, _, rfl⟩ := hx; rfl) (by unfold maxLen; omega) (by omega) (by simp) ?_)
      intro v' w3 hown3 hgrow hnil hat
      have HO3 : Hid _ := hown3
      have HG3 : Hid _ := hgrow
      clear hown3 hgrow hnil)
    have hO : w3.ownsRow w.heap.size 220 1 v' (0 + l.length) ([] ++ l.map (Value.int .i64)) := HO3.out
    rw [Nat.zero_add, List.nil_append] at hO
    have HA : Hid (IR w3 220 v' l ∧ Below w.heap.size w w3 ∧ ∀ b, v'.ownBlock = some b → w.heap.size ≤ b) := by
      refine ⟨ownsRow_weak hO (Nat.zero_le _), ?_, fun b hb => (hO.lt b hb).1⟩
      exact Below.grown ((Below.refl _ w).alloc (Nat.le_refl _) _) HG3.out (by simp) (fun k hk => by simp [Value.ownBlock] at hk; omega)
    clear hO HO3 HG3 H0 hat
    go_ret
    exact ⟨v', rfl, HA.out⟩
set_option maxHeartbeats 2000000 in
theorem stclone_any {p : Nat} {cs : Array Value} {ty : TypeId} {w : World} {v : Value} {l : List Int} (hp : w.heap[p]? = some (.cells cs ty (0, 0))) (h0 : cs[0]? = some v) (h : IR w 220 v l) (hl : l.length ≤ 5000) :
    Calls Tryz.prog 258 #[.pointer (some ⟨p, 0, none⟩)] w fun e w' => ∃ v', e = .returned (.agg #[v']) ∧ IR w' 220 v' l ∧ Below w.heap.size w w' ∧ ∀ b, v'.ownBlock = some b → w.heap.size ≤ b := by
  have hpc : w.cell? ⟨p, 0, none⟩ = some v := by rw [cell_of_row w p 0 _ _ _ hp]; exact h0
  have hlt := lt_of_get hp
  have W1 : ∀ W, Below w.heap.size w W → Calls Tryz.prog 259 #[v] W fun e w' => ∃ v', e = .returned v' ∧ IR w' 220 v' l ∧ Below W.heap.size W w' ∧ ∀ b, v'.ownBlock = some b → W.heap.size ≤ b := fun W hb => tclone_any (ownsRow_below h hb) hl
  clear hp h0
  obtain ⟨a, cap, rfl⟩ := h.sl
  clear h
  have hpc2 : ∀ o, (w.alloc o).cell? ⟨p, 0, none⟩ = some (.slice a l.length cap) := fun o => by rw [World.cell?_of_block (w := w) (a := ⟨p, 0, none⟩) (Below.heap_alloc w o p hlt)]; exact hpc
  go_enter Tryz.func258, Tryz.ntmps258
  go_wp2_with (
    go_at_call 259
    refine (W1 _ ((Below.refl _ w).alloc (Nat.le_refl _) _)).mono ?_
    rintro e w' ⟨v', rfl, h1, h2, h3⟩
    obtain ⟨a', cap', rfl⟩ := h1.sl
    have hc0 : w'.heap[w.heap.size]? = _ := (h2.block w.heap.size (by simp)).trans (heap_alloc_new w _)
    have hc1 : w'.cell? ⟨w.heap.size, 0, none⟩ = some (.slice none 0 0) := by rw [cell_of_row w' _ 0 _ _ _ hc0]; rfl
    have hc2 : w'.frozen? ⟨w.heap.size, 0, none⟩ = false := by simp [World.frozen?, hc0]
    have HC : Hid _ := hc0
    have HA : Hid _ := And.intro h1 (And.intro h2 h3)
    clear h1 h2 h3 hc0)
  refine bodyPost_ret (v := .agg #[.slice a' l.length cap']) (by simp [results, Tryz.results258, go_sem, cell_set_same, hc1]) rfl ?_
  obtain ⟨h1, h2, h3⟩ := HA.out
  rw [World.size_alloc] at h3
  have hne : ∀ g, (Value.slice a' l.length cap').ownBlock = some g → ¬ (g = w.heap.size) := fun g hg e => by have := h3 g hg; omega
  refine ⟨_, rfl, h1.only ((Only.refl (fun b => b = w.heap.size) w').setCell (.inl rfl) _) hne, ?_, fun b hb => by have := h3 b hb; omega⟩
  exact (((Below.refl _ w).alloc (Nat.le_refl _) _).trans (h2.mono (by simp))).setCell (by simp) _
set_option maxHeartbeats 2000000 in
theorem sclone_any {w : World} {p : Nat} {vs vc : Value} {st c : List Int} (h : SetAt w p vs vc st c) (hl : st.length ≤ 5000) (hl2 : c.length ≤ 5000) :
    Calls Tryz.prog 236 #[.pointer (some ⟨p, 0, none⟩)] w fun e w' => ∃ p' vs' vc', e = .returned (.pointer (some ⟨p', 0, none⟩)) ∧ SetAt w' p' vs' vc' st c ∧ Below w.heap.size w w' ∧ ∀ b, Foot p' vs' vc' b → w.heap.size ≤ b := by
  have hpc : w.cell? ⟨p, 1, none⟩ = some vc := by rw [cell_of_row w p 1 _ _ _ h.blk]; rfl
  have hlt := lt_of_get h.blk
  have W1 : ∀ W, Below w.heap.size w W → Calls Tryz.prog 258 #[.pointer (some ⟨p, 0, none⟩)] W fun e w' => ∃ v', e = .returned (.agg #[v']) ∧ IR w' 220 v' st ∧ Below W.heap.size W w' ∧ ∀ b, v'.ownBlock = some b → W.heap.size ≤ b := fun W hb =>
    stclone_any (w := W) (v := vs) ((hb.block p hlt).trans h.blk) rfl (ownsRow_below h.st hb) hl
  have W2 : ∀ W, Below w.heap.size w W → Calls Tryz.prog 259 #[vc] W fun e w' => ∃ v', e = .returned v' ∧ IR w' 220 v' c ∧ Below W.heap.size W w' ∧ ∀ b, v'.ownBlock = some b → W.heap.size ≤ b := fun W hb => tclone_any (ownsRow_below h.cl hb) hl2
  have KP : Hid (∀ W W', (Below w.heap.size w W ∧ W.cell? ⟨p, 1, none⟩ = some vc) → Below W.heap.size W W' → (Below w.heap.size w W' ∧ W'.cell? ⟨p, 1, none⟩ = some vc)) := fun W W' hS hb => ⟨hS.1.trans (hb.mono hS.1.size), by rw [hb.cell (World.block_lt_of_cell? W _ hS.2)]; exact hS.2⟩
  have KD : Hid (∀ W : World, (Below w.heap.size w W ∧ W.cell? ⟨p, 1, none⟩ = some vc) → (Below w.heap.size w W.drew ∧ W.drew.cell? ⟨p, 1, none⟩ = some vc)) := fun W hS => ⟨hS.1.drew, hS.2⟩
  have KA : Hid (∀ (W : World) (o : Obj), (Below w.heap.size w W ∧ W.cell? ⟨p, 1, none⟩ = some vc) → (Below w.heap.size w (W.alloc o) ∧ (W.alloc o).cell? ⟨p, 1, none⟩ = some vc)) := fun W o hS => ⟨hS.1.alloc hS.1.size _, by rw [World.cell?_of_block (w := W) (a := ⟨p, 1, none⟩) (Below.heap_alloc W o p (by have := hS.1.size; omega))]; exact hS.2⟩
  have hS0 : Below w.heap.size w w ∧ w.cell? ⟨p, 1, none⟩ = some vc := ⟨Below.refl _ _, hpc⟩
  obtain ⟨a, cap, rfl⟩ := h.cl.sl
  clear h
  go_enter Tryz.func236, Tryz.ntmps236
  go_wp2_with fail
  go_region_held3 (fun w' => Below w.heap.size w w' ∧ w'.cell? ⟨p, 1, none⟩ = some (.slice a c.length cap)) (first | with_reducible exact KD.out _ (by assumption) | with_reducible exact KP.out _ _ (by assumption) (by assumption) | with_reducible exact KA.out _ _ (by assumption) | with_reducible assumption | go_keep)
    (first
      | (go_at_call 258; refine (W1 _ (by exact And.left (by assumption))).mono ?_; rintro e w1 ⟨v1, rfl, hr1, hb1, hf1⟩; obtain ⟨a1, cap1, rfl⟩ := hr1.sl)
      | (go_at_call 259; refine (W2 _ (by exact And.left (by assumption))).mono ?_; rintro e w2 ⟨v2, rfl, hr2, hb2, hf2⟩; obtain ⟨a2, cap2, rfl⟩ := hr2.sl))
  clear KP KD KA W1 W2 hS0
  rename_i hHeld
  have hb12 : Below w.heap.size w w2 := (Below.trans ⟨hb1.os, hb1.tape, hb1.output, hb1.size, hb1.block⟩ (hb2.mono (by exact hb1.size)))
  have hs1 : w.heap.size ≤ w1.heap.size := hb1.size
  have hs2 := hb2.size
  have HA : Hid (SetAt (w2.alloc (.cells #[.slice a1 st.length cap1, .slice a2 c.length cap2] 289)) w2.heap.size (.slice a1 st.length cap1) (.slice a2 c.length cap2) st c ∧ Below w.heap.size w (w2.alloc (.cells #[.slice a1 st.length cap1, .slice a2 c.length cap2] 289)) ∧ ∀ b, Foot w2.heap.size (.slice a1 st.length cap1) (.slice a2 c.length cap2) b → w.heap.size ≤ b) := by
    refine ⟨⟨heap_alloc_new _ _, (ownsRow_below hr1 hb2).alloc _, hr2.alloc _, fun b h1 h2 => ?_⟩, hHeld.1, fun b hb => ?_⟩
    · have := (hr1.lt b h1).2
      have := hf2 b h2
      omega
    · rcases hb with rfl | hb | hb
      · omega
      · exact hf1 b hb
      · have := hf2 b hb; omega
  clear hr1 hr2 hf1 hf2 hHeld hb1 hb2 hb12
  go_wp2
  go_ret
  exact ⟨_, _, _, rfl, HA.out⟩
end Go.Proofs.YtfkdailfcmnjlaaGreatDoor

namespace Go.Proofs.YtfkdailfcmnjlaaGreatDoor
open Go Go.RowKit
set_option maxRecDepth 100000
attribute [local go_sem ↓] Go.wp_at_zero Go.wp_at_succ

set_option maxHeartbeats 2000000 in
theorem tequal_any {w : World} {v u : Value} {l m : List Int} (h : IR w 220 v l) (h2 : IR w 220 u m) (hl : l.length ≤ 5000) (hm : m.length ≤ 5000) :
    Calls Tryz.prog 272 #[v, u] w fun e w' => e = .returned (.bool (decide (l = m))) ∧ Below w.heap.size w w' := by
  obtain ⟨a, cap, rfl⟩ := h.sl
  obtain ⟨b, cap', rfl⟩ := h2.sl
  by_cases he : l.length = m.length
  · have HE : Hid _ := he
    have H1 : Hid _ := h
    have H2 : Hid _ := h2
    clear h h2
    go_enter Tryz.func272, Tryz.ntmps272
    go_wp2_with fail
    go_loopw [13] (fun i wr => ∃ k : Nat, k ≤ m.length ∧ i = .int .i64 k ∧ Hid (∀ q, q < k → l.getD q 0 = m.getD q 0) ∧ Hid (Below w.heap.size w wr)) (fun i _ => m.length - (intOf i).toNat)
    case atStart => exact ⟨0, Nat.zero_le _, rfl, fun q hq => by omega, Below.refl _ _⟩
    case round =>
      obtain ⟨k, hk, rfl, HQ, HB⟩ := hrel
      by_cases hlt : k < m.length
      · have H1' : IR wr 220 _ l := ownsRow_below H1.out HB.out
        have H2' : IR wr 220 _ m := ownsRow_below H2.out HB.out
        obtain ⟨g, c1, e1, _⟩ := H1'.form (by omega)
        obtain ⟨g2, c2, e2, _⟩ := H2'.form (by omega)
        simp at e1 e2
        obtain ⟨rfl, rfl⟩ := e1
        obtain ⟨rfl, rfl⟩ := e2
        have hc1 := H1'.cell (k := k) (by omega)
        have hc2 := H2'.cell (k := k) (by omega)
        have HX : Hid (l.getD k 0 = l.getD k 0 ∧ m.getD k 0 = m.getD k 0) := ⟨rfl, rfl⟩
        clear H1' H2'
        have HL : Hid (∀ x y, l.getD k 0 = x → m.getD k 0 = y → l.getD k 0 = x ∧ m.getD k 0 = y) := fun _ _ h1 h2 => ⟨h1, h2⟩
        generalize hx : l.getD k 0 = x at hc1
        generalize hy : m.getD k 0 = y at hc2
        have HXY : Hid _ := And.intro hx hy
        clear hx hy HX HL
        have hkm : (0 : Int) ≤ (k : Int) ∧ (k : Int) < (m.length : Int) := by omega
        have hkl : (0 : Int) ≤ (k : Int) ∧ (k : Int) < (l.length : Int) := by omega
        by_cases hxy : x = y
        · subst hxy
          go_wp2_with fail
          go_region
          go_wp2
          refine ⟨⟨k + 1, by omega, by go_num, fun q hq => ?_, HB.out.drew⟩, by simp [intOf]; omega⟩
          by_cases e : q = k
          · subst e; rw [HXY.out.1, HXY.out.2]
          · exact HQ.out q (by omega)
        · have hxy' : (x != y) = true := by simpa using hxy
          have HN : Hid (¬ l = m) := fun e => hxy (by rw [← HXY.out.1, ← HXY.out.2, e])
          go_wp2_with fail
          go_region
          go_wp2
          go_ret
          exact ⟨by simp [HN.out], HB.out.drew⟩
      · have HA : Hid (l = m) := by
          apply List.ext_getElem HE.out
          intro i h1 h2
          have := HQ.out i (by omega)
          rw [List.getD_eq_getElem?_getD, List.getD_eq_getElem?_getD, List.getElem?_eq_getElem h1, List.getElem?_eq_getElem h2] at this
          exact this
        go_wp2
        go_ret
        exact ⟨by simp [HA.out], HB.out⟩
  · have hne : ((l.length : Int) != (m.length : Int)) = true := by simp; omega
    have hd : decide (l = m) = false := by simp; intro e; exact he (by rw [e])
    rw [hd]
    clear h h2 hd
    go_enter Tryz.func272, Tryz.ntmps272
    go_wp2
    go_ret
    exact ⟨rfl, Below.refl _ _⟩
end Go.Proofs.YtfkdailfcmnjlaaGreatDoor

namespace Go.Proofs.YtfkdailfcmnjlaaGreatDoor
open Go Go.RowKit
set_option maxRecDepth 100000
attribute [local go_sem ↓] Go.wp_at_zero Go.wp_at_succ

theorem below2 (w : World) (o1 o2 : Obj) : Below w.heap.size w ((w.alloc o1).alloc o2) := ((Below.refl _ _).alloc (Nat.le_refl _) _).alloc (by simp) _
set_option maxHeartbeats 2000000 in
theorem ssame_any {w : World} {v u : Value} {l m : List Int} (h : IR w 220 v l) (h2 : IR w 220 u m) (hl : l.length ≤ 5000) (hm : m.length ≤ 5000) :
    Calls Tryz.prog 260 #[.agg #[v], .agg #[u]] w fun e w' => e = .returned (.bool (decide (l = m))) ∧ Below w.heap.size w w' := by
  have W1 : ∀ W, Below w.heap.size w W → Calls Tryz.prog 272 #[v, u] W fun e w' => e = .returned (.bool (decide (l = m))) ∧ Below W.heap.size W w' := fun W hb => tequal_any (ownsRow_below h hb) (ownsRow_below h2 hb) hl hm
  obtain ⟨a, cap, rfl⟩ := h.sl
  obtain ⟨b, cap', rfl⟩ := h2.sl
  clear h h2
  generalize decide (l = m) = r at *
  go_enter Tryz.func260, Tryz.ntmps260
  go_wp2_with (
    go_at_call 272
    refine (W1 _ (below2 w _ _)).mono ?_
    rintro e w' ⟨rfl, hb⟩)
  go_ret
  exact ⟨rfl, (below2 w _ _).trans (hb.mono (by simp; omega))⟩
/-- The cells that both know, as far as it was looked. -/
def metL (c d : List Int) (k : Nat) : List Int := (List.range c.length).map fun i => if i < k then (if c.getD i 0 = d.getD i 0 then c.getD i 0 else 0) else c.getD i 0
theorem metL_len (c d : List Int) (k : Nat) : (metL c d k).length = c.length := by simp [metL]
theorem metL_at (c d : List Int) (k : Nat) {i : Nat} (h : i < c.length) : (metL c d k).getD i 0 = if i < k then (if c.getD i 0 = d.getD i 0 then c.getD i 0 else 0) else c.getD i 0 := by
  rw [List.getD_eq_getElem?_getD, metL, List.getElem?_map, List.getElem?_range h]; rfl
theorem ext_getD {a b : List Int} (hl : a.length = b.length) (h : ∀ i, i < a.length → a.getD i 0 = b.getD i 0) : a = b := by
  apply List.ext_getElem hl
  intro i h1 h2
  have := h i h1
  rw [List.getD_eq_getElem?_getD, List.getD_eq_getElem?_getD, List.getElem?_eq_getElem h1, List.getElem?_eq_getElem h2] at this
  exact this
theorem metL_zero (c d : List Int) : metL c d 0 = c := ext_getD (metL_len _ _ _) (fun i hi => by rw [metL_len] at hi; rw [metL_at _ _ _ hi, if_neg (by omega)])
theorem getD_setI (l : List Int) (k : Nat) (x : Int) (i : Nat) : (l.set k x).getD i 0 = if i = k ∧ k < l.length then x else l.getD i 0 := by
  rw [List.getD_eq_getElem?_getD, List.getElem?_set, List.getD_eq_getElem?_getD]
  by_cases e : k = i
  · subst e
    by_cases h : k < l.length
    · simp [h]
    · simp [h, List.getElem?_eq_none (Nat.le_of_not_lt h)]
  · rw [if_neg e, if_neg (fun h => e h.1.symm)]
theorem metL_same {c d : List Int} {k : Nat} (h : k < c.length) (e : c.getD k 0 = d.getD k 0) : metL c d (k + 1) = metL c d k :=
  ext_getD (by simp [metL_len]) (fun i hi => by
    rw [metL_len] at hi
    rw [metL_at _ _ _ hi, metL_at _ _ _ hi]
    by_cases q : i = k
    · subst q; rw [if_pos (by omega), if_pos e, if_neg (by omega)]
    · by_cases q2 : i < k
      · rw [if_pos (by omega), if_pos q2]
      · rw [if_neg (by omega), if_neg q2])
theorem metL_off {c d : List Int} {k : Nat} (h : k < c.length) (e : c.getD k 0 ≠ d.getD k 0) : metL c d (k + 1) = (metL c d k).set k 0 :=
  ext_getD (by simp [metL_len]) (fun i hi => by
    rw [metL_len] at hi
    rw [metL_at _ _ _ hi, getD_setI, metL_len, metL_at _ _ _ hi]
    by_cases q : i = k
    · subst q; rw [if_pos (by omega), if_neg e, if_pos ⟨rfl, h⟩]
    · rw [if_neg (c := i = k ∧ k < c.length) (fun a => q a.1)]
      by_cases q2 : i < k
      · rw [if_pos (by omega), if_pos q2]
      · rw [if_neg (by omega), if_neg q2])
set_option maxHeartbeats 4000000 in
theorem smeet_any {w : World} {p q : Nat} {vs vc us uc : Value} {st c st2 c2 : List Int} (h : SetAt w p vs vc st c) (h2 : SetAt w q us uc st2 c2) (hd : ∀ b, Foot p vs vc b → ¬ Foot q us uc b) (hl : st.length ≤ 5000) (hl2 : st2.length ≤ 5000) (hc : c.length ≤ 5000) :
    Calls Tryz.prog 237 #[.pointer (some ⟨p, 0, none⟩), .pointer (some ⟨q, 0, none⟩)] w fun e w' => e = .returned (.bool (decide (st = st2))) ∧ SetOut w w' p vs vc st (metL c c2 c.length) := by
  have hpc : w.cell? ⟨p, 1, none⟩ = some vc := by rw [cell_of_row w p 1 _ _ _ h.blk]; rfl
  have H : Hid _ := h
  have H2 : Hid _ := h2
  have HD : Hid _ := hd
  obtain ⟨a, cap, rfl⟩ := h.cl.sl
  clear h h2 hd
  go_enter Tryz.func237, Tryz.ntmps237
  go_wp2_with fail
  go_loopw [13] (fun i wr => ∃ k : Nat, k ≤ c.length ∧ i = .int .i64 k ∧ Hid (Only (fun b => (Value.slice a c.length cap).ownBlock = some b) w wr) ∧ Hid (IR wr 220 (.slice a c.length cap) (metL c c2 k))) (fun i _ => c.length - (intOf i).toNat)
  case atStart => exact ⟨0, Nat.zero_le _, rfl, Only.refl _ _, by rw [metL_zero]; exact H.out.cl⟩
  case round =>
    obtain ⟨k, hk, rfl, HO, HI⟩ := hrel
    have H2r : SetAt wr q us uc st2 c2 := H2.out.only HO.out (fun b hb h => HD.out b (.inr (.inr h)) hb)
    have hpr : wr.cell? ⟨p, 1, none⟩ = some (.slice a c.length cap) := by
      rw [World.cell?_of_block (w := w) (a := ⟨p, 1, none⟩) (HO.out.block p (lt_of_get H.out.blk) (H.out.cl.ne H.out.blk ty_ne))]; exact hpc
    by_cases hlt : k < c.length
    · have hkc : (0 : Int) ≤ (k : Int) ∧ (k : Int) < (c.length : Int) := by omega
      obtain ⟨g, c1, e1, _⟩ := HI.out.form (by rw [metL_len]; omega)
      simp at e1
      obtain ⟨rfl, hbad, rfl⟩ := e1
      clear hbad
      have hcell := HI.out.cell (k := k) (by rw [metL_len]; omega)
      have hfr := HI.out.frz k
      rw [metL_at _ _ _ hlt, if_neg (Nat.lt_irrefl k)] at hcell
      have W1 := sof_any k H2r
      have HC : Hid (∀ x y, c.getD k 0 = x → c2.getD k 0 = y → c.getD k 0 = x ∧ c2.getD k 0 = y) := fun _ _ h1 h2 => ⟨h1, h2⟩
      generalize hx : c.getD k 0 = x at hcell
      generalize hy : c2.getD k 0 = y at W1
      have HXY : Hid _ := And.intro hx hy
      clear hx hy HC H2r
      by_cases hxy : x = y
      · subst hxy
        go_wp2_with (
          go_at_call 234
          refine W1.mono ?_
          rintro e w' ⟨rfl, rfl⟩)
        go_roundw
        case rel =>
          refine ⟨k + 1, by omega, by go_num, HO.out, ?_⟩
          rw [metL_same hlt (HXY.out.1.trans HXY.out.2.symm)]; exact HI.out
        case measure => simp [intOf]; omega
      · have hxy' : (x != y) = true := by simpa using hxy
        have HN : Hid (c.getD k 0 ≠ c2.getD k 0) := fun e => hxy (by rw [← HXY.out.1, ← HXY.out.2, e])
        go_wp2_with (
          go_at_call 234
          refine W1.mono ?_
          rintro e w' ⟨rfl, rfl⟩)
        go_roundw
        case rel =>
          refine ⟨k + 1, by omega, by go_num, HO.out.setCell (.inl rfl) _, ?_⟩
          rw [metL_off hlt HN.out]
          have := HI.out
          rw [← metL_len c c2 k] at this ⊢
          exact this.set (by rw [metL_len]; exact hlt) 0
        case measure => simp [intOf]; omega
    · have hkl : k = c.length := by omega
      subst hkl
      have hst : IR wr 220 vs st := H.out.st.only HO.out (fun g hg h => H.out.ne g hg h)
      have hpr0 : wr.cell? ⟨p, 0, none⟩ = some vs := by
        rw [World.cell?_of_block (w := w) (a := ⟨p, 0, none⟩) (HO.out.block p (lt_of_get H.out.blk) (H.out.cl.ne H.out.blk ty_ne)), cell_of_row w p 0 _ _ _ H.out.blk]; rfl
      have hqr0 : wr.cell? ⟨q, 0, none⟩ = some us := by rw [cell_of_row wr q 0 _ _ _ H2r.blk]; rfl
      have W1 : ∀ W, Below wr.heap.size wr W → Calls Tryz.prog 260 #[.agg #[vs], .agg #[us]] W fun e w' => e = .returned (.bool (decide (st = st2))) ∧ Below W.heap.size W w' := fun W hb => ssame_any (ownsRow_below hst hb) (ownsRow_below H2r.st hb) hl hl2
      obtain ⟨sa, scap, rfl⟩ := hst.sl
      obtain ⟨ua, ucap, rfl⟩ := H2r.st.sl
      have HA : Hid (∀ w', Below wr.heap.size wr w' → SetOut w w' p (.slice sa st.length scap) (.slice a c.length cap) st (metL c c2 c.length)) := fun w' hb => by
        have hblk : wr.heap[p]? = _ := (HO.out.block p (lt_of_get H.out.blk) (H.out.cl.ne H.out.blk ty_ne)).trans H.out.blk
        refine ⟨_, _, ⟨(hb.block p (lt_of_get hblk)).trans hblk, ownsRow_below hst hb, ownsRow_below HI.out hb, H.out.ne⟩, ?_, fun b hb => .inl hb⟩
        exact HO.out.trans (Only.of_below (F := fun _ => False) hb) (fun i _ h => .inr (.inr h)) (fun i _ h => h.elim)
      have KP : Hid (∀ W W', (Below wr.heap.size wr W ∧ W.cell? ⟨p, 0, none⟩ = some (.slice sa st.length scap) ∧ W.cell? ⟨q, 0, none⟩ = some (.slice ua st2.length ucap)) → Below W.heap.size W W' → (Below wr.heap.size wr W' ∧ W'.cell? ⟨p, 0, none⟩ = some (.slice sa st.length scap) ∧ W'.cell? ⟨q, 0, none⟩ = some (.slice ua st2.length ucap))) := fun W W' hS hb => ⟨hS.1.trans (hb.mono hS.1.size), by rw [hb.cell (World.block_lt_of_cell? W _ hS.2.1)]; exact hS.2.1, by rw [hb.cell (World.block_lt_of_cell? W _ hS.2.2)]; exact hS.2.2⟩
      have KD : Hid (∀ W : World, (Below wr.heap.size wr W ∧ W.cell? ⟨p, 0, none⟩ = some (.slice sa st.length scap) ∧ W.cell? ⟨q, 0, none⟩ = some (.slice ua st2.length ucap)) → (Below wr.heap.size wr W.drew ∧ W.drew.cell? ⟨p, 0, none⟩ = some (.slice sa st.length scap) ∧ W.drew.cell? ⟨q, 0, none⟩ = some (.slice ua st2.length ucap))) := fun W hS => ⟨hS.1.drew, hS.2⟩
      have hS0 : Below wr.heap.size wr wr ∧ wr.cell? ⟨p, 0, none⟩ = some (.slice sa st.length scap) ∧ wr.cell? ⟨q, 0, none⟩ = some (.slice ua st2.length ucap) := ⟨Below.refl _ _, hpr0, hqr0⟩
      clear hst H2r HO HI hpr
      generalize hr : decide (st = st2) = r at W1
      have HR : Hid _ := hr
      clear hr
      go_wp2_with fail
      go_region_held3 (fun w' => Below wr.heap.size wr w' ∧ w'.cell? ⟨p, 0, none⟩ = some (.slice sa st.length scap) ∧ w'.cell? ⟨q, 0, none⟩ = some (.slice ua st2.length ucap)) (first | with_reducible exact KD.out _ (by assumption) | with_reducible exact KP.out _ _ (by assumption) (by assumption) | with_reducible assumption | go_keep)
        (first
          | (go_at_call 260; refine (W1 _ (by exact And.left (by assumption))).mono ?_; rintro e w1 ⟨rfl, hb1⟩))
      rename_i hHeld
      have HB : Hid _ := hHeld.1
      clear hHeld KP KD W1 hS0
      go_wp2
      go_ret
      exact ⟨by rw [HR.out]; rfl, HA.out _ HB.out⟩
end Go.Proofs.YtfkdailfcmnjlaaGreatDoor

namespace Go.Proofs.YtfkdailfcmnjlaaGreatDoor
open Go Go.RowKit
set_option maxRecDepth 100000
attribute [local go_sem ↓] Go.wp_at_zero Go.wp_at_succ

/-- So many of one type are taken off. -/
def onS : Nat → Int → List Int → Option (List Int)
  | 0, _, st => some st
  | n + 1, t, st => if st.getLast?.getD 0 = t then onS n t st.dropLast else none
/-- What a change of a set leaves: the stack and the cells, or a failure. -/
def ChAns (w : World) (p : Nat) (vs vc : Value) (r : Option (List Int × List Int)) (e : Ending) (w' : World) : Prop := match r with
  | some x => e = .returned (.bool true) ∧ SetOut w w' p vs vc x.1 x.2
  | none => e = .returned (.bool false) ∧ Only (Foot p vs vc) w w'
theorem SetOut.only {w w' : World} {p : Nat} {vs vc : Value} {st c : List Int} (h : SetOut w w' p vs vc st c) : Only (Foot p vs vc) w w' := by
  obtain ⟨_, _, _, h, _⟩ := h; exact h
def onR (n : Nat) (t o : Int) (st c : List Int) : Option (List Int × List Int) := (onS n t st).map fun r => (if o = 0 then r else r ++ [o], c)
theorem SetOut.alloc {w w' : World} {p : Nat} {vs vc : Value} {st c : List Int} {o : Obj} (h : SetOut (w.alloc o) w' p vs vc st c) : SetOut w w' p vs vc st c :=
  SetOut.then ((Only.refl _ w).alloc o) (fun _ hb => .inl hb) h
set_option maxHeartbeats 4000000 in
theorem eon_any {w : World} {p : Nat} {vs vc : Value} {st c : List Int} (n : Nat) (t o : Int) (h : SetAt w p vs vc st c) (hl : st.length ≤ 4000) (hn : n ≤ 10) :
    Calls Tryz.prog 235 #[.agg #[.int .i64 n, .int .i64 t, .int .i64 o], .pointer (some ⟨p, 0, none⟩)] w fun e w' => ChAns w p vs vc (onR n t o st c) e w' := by
  have hblk : (w.alloc (.cells #[.int .i64 n, .int .i64 t, .int .i64 o] 321)).heap[w.heap.size]? = _ := heap_alloc_new w _
  have hs1 : SetAt (w.alloc (.cells #[.int .i64 n, .int .i64 t, .int .i64 o] 321)) p vs vc st c := h.only ((Only.refl (fun _ => False) w).alloc _) (fun _ _ h => h)
  have hfr : ∀ b, Foot p vs vc b → b < w.heap.size := fun b hb => h.lt hb
  have hc0 : (w.alloc (.cells #[.int .i64 n, .int .i64 t, .int .i64 o] 321)).cell? ⟨w.heap.size, 0, none⟩ = some (.int .i64 n) := by rw [cell_of_row _ _ 0 _ _ _ hblk]; rfl
  have HS : Hid _ := hs1
  have HF : Hid _ := hfr
  have HB : Hid _ := hblk
  have HW : Hid (∀ w' st c, SetOut (w.alloc (.cells #[.int .i64 n, .int .i64 t, .int .i64 o] 321)) w' p vs vc st c → SetOut w w' p vs vc st c) := fun _ _ _ h => h.alloc
  have HW2 : Hid (∀ w', Only (Foot p vs vc) (w.alloc (.cells #[.int .i64 n, .int .i64 t, .int .i64 o] 321)) w' → Only (Foot p vs vc) w w') := fun _ h => ((Only.refl (Foot p vs vc) w).alloc _).trans h (fun _ _ h => h) (fun _ _ h => h)
  have HZ : Hid (w.heap.size < (w.alloc (.cells #[.int .i64 n, .int .i64 t, .int .i64 o] 321)).heap.size) := by show _ < _; rw [World.size_alloc]; omega
  clear h hs1 hfr hblk
  go_enter Tryz.func235, Tryz.ntmps235
  go_wp2_with fail
  generalize w.alloc (.cells #[.int .i64 n, .int .i64 t, .int .i64 o] 321) = w1 at *
  go_loopw [7] (fun i wr => ∃ k : Nat, k ≤ n ∧ i = .int .i64 k ∧ Hid (∃ st1, SetOut w1 wr p vs vc st1 c ∧ onS n t st = onS (n - k) t st1 ∧ st1.length ≤ 4000)) (fun i _ => n - (intOf i).toNat)
  case atStart => exact ⟨0, Nat.zero_le _, rfl, st, SetOut.refl HS.out, rfl, hl⟩
  case round =>
    obtain ⟨k, hk, rfl, HI⟩ := hrel
    obtain ⟨st1, ⟨vs1, vc1, hset, hon, hft⟩, hons, hlen⟩ := HI.out
    have hb1 : wr.heap[w.heap.size]? = _ := (hon.block w.heap.size HZ.out (fun h => by have := HF.out _ h; omega)).trans HB.out
    have hc1 : wr.cell? ⟨w.heap.size, 1, none⟩ = some (.int .i64 t) := by rw [cell_of_row _ _ 1 _ _ _ hb1]; rfl
    have hc2 : wr.cell? ⟨w.heap.size, 2, none⟩ = some (.int .i64 o) := by rw [cell_of_row _ _ 2 _ _ _ hb1]; rfl
    by_cases hlt : k < n
    · have W1 := spop_any hset.drew (by omega)
      have hne : ¬ Foot p vs1 vc1 w.heap.size := fun h => by
        rcases hft _ h with h | h
        · have := HF.out _ h; omega
        · have := HZ.out; omega
      have HK : Hid (∀ W', SetOut wr.drew W' p vs1 vc1 st1.dropLast c → W'.cell? ⟨w.heap.size, 1, none⟩ = some (.int .i64 t)) := fun W' h => by
        rw [World.cell?_of_block (w := wr.drew) (a := ⟨w.heap.size, 1, none⟩) (h.only.block _ (lt_of_get (w := wr.drew) hb1) hne)]; exact hc1
      have HN : Hid (∀ W', SetOut wr.drew W' p vs1 vc1 st1.dropLast c → SetOut w1 W' p vs vc st1.dropLast c) := fun W' h => SetOut.then hon.drew hft h
      have HL : Hid (n - k = n - (k + 1) + 1 ∧ st1.dropLast.length ≤ 4000) := ⟨by omega, by simp; omega⟩
      have HO : Hid _ := hons
      clear hset hon hft hons hb1 hne HI
      by_cases hx : st1.getLast?.getD 0 = t
      · rw [hx] at W1
        have HX : Hid _ := hx
        clear hx
        go_wp2_with fail
        go_region_held3 (fun w' => w'.cell? ⟨w.heap.size, 1, none⟩ = some (.int .i64 t)) (first | with_reducible exact HK.out _ (by assumption) | with_reducible assumption | go_keep)
          (first | (go_at_call 232; refine W1.mono ?_; rintro e w2 ⟨rfl, hout⟩))
        rename_i hHeld
        clear hHeld
        have HU : Hid _ := hout
        clear hout
        go_wp2
        go_roundw
        case rel =>
          refine ⟨k + 1, by omega, by go_num, st1.dropLast, HN.out _ HU.out, ?_, HL.out.2⟩
          rw [HO.out, HL.out.1, onS, if_pos HX.out]
        case measure => simp [intOf]; omega
      · have hx' : ((st1.getLast?.getD 0) != t) = true := by simpa using hx
        have HX : Hid _ := hx
        generalize st1.getLast?.getD 0 = x at W1 hx'
        clear hx
        go_wp2_with fail
        go_region_held3 (fun w' => w'.cell? ⟨w.heap.size, 1, none⟩ = some (.int .i64 t)) (first | with_reducible exact HK.out _ (by assumption) | with_reducible assumption | go_keep)
          (first | (go_at_call 232; refine W1.mono ?_; rintro e w2 ⟨rfl, hout⟩))
        rename_i hHeld
        clear hHeld
        have HU : Hid _ := hout
        clear hout
        go_wp2
        go_ret
        have e1 : onR n t o st c = none := by unfold onR; rw [HO.out, HL.out.1, onS, if_neg HX.out]; rfl
        rw [e1]
        exact ⟨rfl, HW2.out _ (HN.out _ HU.out).only⟩
    · have hkn : n - k = 0 := by omega
      rw [hkn] at hons
      have e1 : onR n t o st c = some (if o = 0 then st1 else st1 ++ [o], c) := by unfold onR; rw [hons]; rfl
      have HE : Hid _ := e1
      have HS1 : Hid (SetOut w1 wr p vs vc st1 c) := ⟨vs1, vc1, hset, hon, hft⟩
      by_cases ho : o = 0
      · subst ho
        clear hset hon hft hons e1 HI hkn
        go_wp2
        go_ret
        rw [HE.out]
        exact ⟨rfl, HW.out _ _ _ HS1.out⟩
      · have ho' : (o != 0) = true := by simpa using ho
        have W1 := spush_any o hset.drew (by omega)
        have hne : ¬ Foot p vs1 vc1 w.heap.size := fun h => by
          rcases hft _ h with h | h
          · have := HF.out _ h; omega
          · have := HZ.out; omega
        have HK : Hid (∀ W', SetOut wr.drew W' p vs1 vc1 (st1 ++ [o]) c → W'.cell? ⟨w.heap.size, 2, none⟩ = some (.int .i64 o)) := fun W' h => by
          rw [World.cell?_of_block (w := wr.drew) (a := ⟨w.heap.size, 2, none⟩) (h.only.block _ (lt_of_get (w := wr.drew) hb1) hne)]; exact hc2
        have HN : Hid (∀ W', SetOut wr.drew W' p vs1 vc1 (st1 ++ [o]) c → SetOut w1 W' p vs vc (st1 ++ [o]) c) := fun W' h => SetOut.then hon.drew hft h
        have HO : Hid _ := ho
        clear hset hon hft hons e1 HI hkn ho hne hb1
        go_wp2_with fail
        go_region_held3 (fun w' => w'.cell? ⟨w.heap.size, 2, none⟩ = some (.int .i64 o)) (first | with_reducible exact HK.out _ (by assumption) | with_reducible assumption | go_keep)
          (first | (go_at_call 231; refine W1.mono ?_; rintro e w2 ⟨rfl, hout⟩))
        rename_i hHeld
        clear hHeld
        have HU : Hid _ := hout
        clear hout
        go_wp2
        go_ret
        rw [HE.out, if_neg HO.out]
        exact ⟨rfl, HW.out _ _ _ (HN.out _ HU.out)⟩
end Go.Proofs.YtfkdailfcmnjlaaGreatDoor

namespace Go.Proofs.YtfkdailfcmnjlaaGreatDoor
open Go Go.RowKit
set_option maxRecDepth 100000
attribute [local go_sem ↓] Go.wp_at_zero Go.wp_at_succ

def fieldI (n : Nat) : Int := if n ≤ 3 then 1 else if n ≤ 6 then 3 else 2
set_option maxHeartbeats 1000000 in
theorem ofField_any (n : Nat) (w : World) : Calls Tryz.prog 216 #[.int .i64 n] w fun e w' => e = .returned (.int .i64 (fieldI n)) ∧ w' = w := by
  go_enter Tryz.func216, Tryz.ntmps216
  go_wp2
  all_goals go_ret
  all_goals refine ⟨ret_int ?_, rfl⟩
  all_goals (unfold fieldI; repeat' split) <;> first | rfl | omega
/-- An instruction as a value. -/
def insV (op : Nat) (n tw pl : Int) : Value := .agg #[.int .i64 op, .int .i64 n, .int .i64 tw, .int .i64 pl]
def insO (op : Nat) (n tw pl : Int) : Obj := .cells #[.int .i64 op, .int .i64 n, .int .i64 tw, .int .i64 pl] 247 (0, 0)
/-- What stands at the beginning of a change: the instruction's block is laid. -/
structure ChStart (w w1 : World) (p : Nat) (vs vc : Value) (st c : List Int) (op : Nat) (n tw pl : Int) : Prop where
  set : SetAt w1 p vs vc st c
  far : ∀ b, Foot p vs vc b → b < w.heap.size
  blk : w1.heap[w.heap.size]? = some (insO op n tw pl)
  siz : w.heap.size < w1.heap.size
  out : ∀ w' st c, SetOut w1 w' p vs vc st c → SetOut w w' p vs vc st c
  only : ∀ w', Only (Foot p vs vc) w1 w' → Only (Foot p vs vc) w w'
theorem ChStart.of {w : World} {p : Nat} {vs vc : Value} {st c : List Int} (h : SetAt w p vs vc st c) (op : Nat) (n tw pl : Int) : ChStart w (w.alloc (insO op n tw pl)) p vs vc st c op n tw pl :=
  ⟨h.only ((Only.refl (fun _ => False) w).alloc _) (fun _ _ h => h), fun b hb => h.lt hb, heap_alloc_new w _, by rw [World.size_alloc]; omega, fun _ _ _ h => h.alloc, fun _ h => ((Only.refl (Foot p vs vc) w).alloc _).trans h (fun _ _ h => h) (fun _ _ h => h)⟩
theorem ChStart.cells {w w1 : World} {p : Nat} {vs vc : Value} {st c : List Int} {op : Nat} {n tw pl : Int} (h : ChStart w w1 p vs vc st c op n tw pl) : w1.cell? ⟨w.heap.size, 0, none⟩ = some (.int .i64 op) ∧ w1.cell? ⟨w.heap.size, 1, none⟩ = some (.int .i64 n) ∧ w1.cell? ⟨w.heap.size, 2, none⟩ = some (.int .i64 tw) := by
  have hc := fun j => cell_of_row w1 _ j _ _ _ h.blk
  exact ⟨hc 0, hc 1, hc 2⟩
/-- The instruction's block stays behind whatever is done tw the set. -/
theorem ChStart.after {w w1 w2 : World} {p : Nat} {vs vc : Value} {st c st2 c2 : List Int} {op : Nat} {n tw pl : Int} (h : ChStart w w1 p vs vc st c op n tw pl) (ho : SetOut w1 w2 p vs vc st2 c2) : w2.cell? ⟨w.heap.size, 0, none⟩ = some (.int .i64 op) ∧ w2.cell? ⟨w.heap.size, 1, none⟩ = some (.int .i64 n) ∧ w2.cell? ⟨w.heap.size, 2, none⟩ = some (.int .i64 tw) := by
  have hb : w2.heap[w.heap.size]? = _ := (ho.only.block _ h.siz (fun hf => by have := h.far _ hf; omega)).trans h.blk
  have hc := fun j => cell_of_row w2 _ j _ _ _ hb
  exact ⟨hc 0, hc 1, hc 2⟩
theorem SetOut.drew {w w' : World} {p : Nat} {vs vc : Value} {st c : List Int} (h : SetOut w w' p vs vc st c) : SetOut w w'.drew p vs vc st c := by
  obtain ⟨vs', vc', h1, h2, h3⟩ := h
  exact ⟨vs', vc', h1.drew, h2.drew, h3⟩
theorem SetOut.of_drew {w w' : World} {p : Nat} {vs vc : Value} {st c : List Int} (h : SetOut w.drew w' p vs vc st c) : SetOut w w' p vs vc st c := by
  obtain ⟨vs', vc', h1, h2, h3⟩ := h
  exact ⟨vs', vc', h1, h2.of_drew, h3⟩
/-- Another call on the set, behind earlier ones. -/
theorem SetOut.push {w w1 : World} {p : Nat} {vs vc : Value} {st c : List Int} (h : SetOut w w1 p vs vc st c) (x : Int) (hl : st.length ≤ 5000) :
    Calls Tryz.prog 231 #[.pointer (some ⟨p, 0, none⟩), .int .i64 x] w1 fun e w' => e = .returned (.tuple #[]) ∧ SetOut w w' p vs vc (st ++ [x]) c := by
  obtain ⟨vs', vc', h1, h2, h3⟩ := h
  refine (spush_any x h1 hl).mono ?_
  rintro e w' ⟨rfl, ho⟩
  exact ⟨rfl, SetOut.then h2 h3 ho⟩
theorem SetOut.pop {w w1 : World} {p : Nat} {vs vc : Value} {st c : List Int} (h : SetOut w w1 p vs vc st c) (hl : st.length ≤ 5000) :
    Calls Tryz.prog 232 #[.pointer (some ⟨p, 0, none⟩)] w1 fun e w' => e = .returned (.int .i64 (st.getLast?.getD 0)) ∧ SetOut w w' p vs vc st.dropLast c := by
  obtain ⟨vs', vc', h1, h2, h3⟩ := h
  refine (spop_any h1 hl).mono ?_
  rintro e w' ⟨rfl, ho⟩
  exact ⟨rfl, SetOut.then h2 h3 ho⟩
theorem SetOut.learn {w w1 : World} {p : Nat} {vs vc : Value} {st c : List Int} (h : SetOut w w1 p vs vc st c) (k : Nat) (x : Int) (hk : k ≤ 255) (hc : c.length ≤ 256) :
    Calls Tryz.prog 233 #[.pointer (some ⟨p, 0, none⟩), .int .i64 k, .int .i64 x] w1 fun e w' => e = .returned (.tuple #[]) ∧ SetOut w w' p vs vc st (learnL c k x) := by
  obtain ⟨vs', vc', h1, h2, h3⟩ := h
  refine (slearn_any k x h1 hk hc).mono ?_
  rintro e w' ⟨rfl, ho⟩
  exact ⟨rfl, SetOut.then h2 h3 ho⟩
set_option maxHeartbeats 4000000 in
theorem change4 {w : World} {p : Nat} {vs vc : Value} {st c : List Int} (n : Nat) (tw pl : Int) (h : SetAt w p vs vc st c) (hl : st.length ≤ 4000) (hn : n ≤ 255) :
    Calls Tryz.prog 188 #[insV 4 n tw pl, .pointer (some ⟨p, 0, none⟩)] w fun e w' => ChAns w p vs vc (some (st ++ [fieldI n], c)) e w' := by
  obtain ⟨w1, hw1, H0⟩ : ∃ w1, w.alloc (.cells #[.int .i64 4, .int .i64 n, .int .i64 tw, .int .i64 pl] 247) = w1 ∧ ChStart w w1 p vs vc st c 4 n tw pl := ⟨_, rfl, ChStart.of h 4 n tw pl⟩
  unfold insV
  have H : Hid _ := H0
  obtain ⟨_, c1, _⟩ := H0.cells
  have W1 := fun w => ofField_any n w
  have W2 := (SetOut.refl H0.set).drew.push (fieldI n) (by omega)
  generalize fieldI n = f at *
  have HW : Hid _ := hw1
  have HK : Hid (∀ W' st2 c2, SetOut w1 W' p vs vc st2 c2 → W'.cell? ⟨w.heap.size, 1, none⟩ = some (.int .i64 n)) := fun W' _ _ h => (H0.after h).2.1
  clear h H0 hw1
  go_enter Tryz.func188, Tryz.ntmps188
  go_wp2_with fail
  rw [HW.out]
  go_region_held3 (fun w' => w'.cell? ⟨w.heap.size, 1, none⟩ = some (.int .i64 n)) (first | with_reducible exact HK.out _ _ _ (by assumption) | with_reducible assumption | go_keep)
    (first
      | (go_at_call 216; refine (W1 _).mono ?_; rintro e w2 ⟨rfl, rfl⟩)
      | (go_at_call 231; refine W2.mono ?_; rintro e w2 ⟨rfl, hout⟩))
  rename_i hHeld
  clear hHeld
  have HU : Hid _ := hout
  clear hout
  go_wp2
  go_ret
  exact ⟨rfl, H.out.out _ _ _ HU.out⟩
set_option maxHeartbeats 4000000 in
theorem change5 {w : World} {p : Nat} {vs vc : Value} {st c : List Int} (n : Nat) (tw pl : Int) (h : SetAt w p vs vc st c) (hl : st.length ≤ 4000) (hc : c.length ≤ 256) (hn : n ≤ 255) :
    Calls Tryz.prog 188 #[insV 5 n tw pl, .pointer (some ⟨p, 0, none⟩)] w fun e w' => ChAns w p vs vc (if st.getLast?.getD 0 = 0 then none else some (st.dropLast, learnL c n (st.getLast?.getD 0))) e w' := by
  obtain ⟨w1, hw1, H0⟩ : ∃ w1, w.alloc (.cells #[.int .i64 5, .int .i64 n, .int .i64 tw, .int .i64 pl] 247) = w1 ∧ ChStart w w1 p vs vc st c 5 n tw pl := ⟨_, rfl, ChStart.of h 5 n tw pl⟩
  unfold insV
  have H : Hid _ := H0
  obtain ⟨_, c1, _⟩ := H0.cells
  have W1 := (SetOut.refl H0.set).pop (by omega)
  have W2 : ∀ W x, SetOut w1 W p vs vc st.dropLast c → _ := fun W x h => h.learn n x hn hc
  generalize st.getLast?.getD 0 = t at *
  have HW : Hid _ := hw1
  have HK : Hid (∀ W' st2 c2, SetOut w1 W' p vs vc st2 c2 → W'.cell? ⟨w.heap.size, 1, none⟩ = some (.int .i64 n)) := fun W' _ _ h => (H0.after h).2.1
  clear h H0 hw1
  go_enter Tryz.func188, Tryz.ntmps188
  go_wp2_with (
    rw [HW.out]
    go_at_call 232
    refine W1.mono ?_
    rintro e w2 ⟨rfl, hout⟩
    have c2 := HK.out _ _ _ hout
    have HU : Hid _ := hout
    clear hout)
  refine (W2 w2 t HU.out).mono ?_
  rintro e w3 ⟨rfl, hout⟩
  have HV : Hid _ := hout
  clear hout W1 W2 HU
  by_cases ht : t = 0
  · subst ht
    go_wp2
    go_ret
    exact ⟨rfl, H.out.only _ (SetOut.only HV.out)⟩
  · have ht' : (t != 0) = true := by simpa using ht
    have HT : Hid _ := ht
    clear ht
    go_wp2
    go_ret
    exact ⟨rfl, H.out.out _ _ _ HV.out⟩
theorem SetOut.of {w w1 : World} {p : Nat} {vs vc : Value} {st c : List Int} (h : SetOut w w1 p vs vc st c) (k : Nat) :
    Calls Tryz.prog 234 #[.pointer (some ⟨p, 0, none⟩), .int .i64 k] w1 fun e w' => e = .returned (.int .i64 (c.getD k 0)) ∧ w' = w1 := by
  obtain ⟨vs', vc', h1, h2, h3⟩ := h
  exact sof_any k h1
set_option maxHeartbeats 4000000 in
theorem change6 {w : World} {p : Nat} {vs vc : Value} {st c : List Int} (n : Nat) (tw pl : Int) (h : SetAt w p vs vc st c) (hl : st.length ≤ 4000) (hc : c.length ≤ 256) (hn : n ≤ 255) :
    Calls Tryz.prog 188 #[insV 6 n tw pl, .pointer (some ⟨p, 0, none⟩)] w fun e w' => ChAns w p vs vc (if c.getD n 0 = 0 then none else some (st ++ [c.getD n 0], c)) e w' := by
  obtain ⟨w1, hw1, H0⟩ : ∃ w1, w.alloc (.cells #[.int .i64 6, .int .i64 n, .int .i64 tw, .int .i64 pl] 247) = w1 ∧ ChStart w w1 p vs vc st c 6 n tw pl := ⟨_, rfl, ChStart.of h 6 n tw pl⟩
  unfold insV
  have H : Hid _ := H0
  obtain ⟨_, c1, _⟩ := H0.cells
  have W1 := (SetOut.refl H0.set).of n
  generalize c.getD n 0 = t at *
  have W2 := (SetOut.refl H0.set).push t (by omega)
  have HW : Hid _ := hw1
  clear h H0 hw1
  go_enter Tryz.func188, Tryz.ntmps188
  go_wp2_with (
    rw [HW.out]
    go_at_call 234
    refine W1.mono ?_
    rintro e w2 ⟨rfl, rfl⟩)
  refine W2.mono ?_
  rintro e w3 ⟨rfl, hout⟩
  have HV : Hid _ := hout
  clear hout W1 W2
  by_cases ht : t = 0
  · subst ht
    go_wp2
    go_ret
    exact ⟨rfl, H.out.only _ (SetOut.only HV.out)⟩
  · have ht' : (t != 0) = true := by simpa using ht
    have HT : Hid _ := ht
    clear ht
    go_wp2
    go_ret
    exact ⟨rfl, H.out.out _ _ _ HV.out⟩
set_option maxHeartbeats 4000000 in
theorem change9 {w : World} {p : Nat} {vs vc : Value} {st c : List Int} (n tw pl : Int) (h : SetAt w p vs vc st c) (hl : st.length ≤ 4000) :
    Calls Tryz.prog 188 #[insV 9 n tw pl, .pointer (some ⟨p, 0, none⟩)] w fun e w' => ChAns w p vs vc (if st.dropLast.getLast?.getD 0 = st.getLast?.getD 0 ∧ st.dropLast.getLast?.getD 0 ≠ 0 then some (st.dropLast.dropLast ++ [2], c) else none) e w' := by
  obtain ⟨w1, hw1, H0⟩ : ∃ w1, w.alloc (.cells #[.int .i64 9, .int .i64 n, .int .i64 tw, .int .i64 pl] 247) = w1 ∧ ChStart w w1 p vs vc st c 9 n tw pl := ⟨_, rfl, ChStart.of h 9 n tw pl⟩
  unfold insV
  have H : Hid _ := H0
  have W1 := (SetOut.refl H0.set).drew.pop (by omega)
  have W2 : ∀ W, SetOut w1 W p vs vc st.dropLast c → _ := fun W h => h.pop (by simp; omega)
  have W3 : ∀ W, SetOut w1 W p vs vc st.dropLast.dropLast c → _ := fun W h => h.push 2 (by simp; omega)
  generalize hr : st.getLast?.getD 0 = r at *
  generalize hq : st.dropLast.getLast?.getD 0 = q at *
  clear hr hq
  generalize hR : (if q = r ∧ q ≠ 0 then some (st.dropLast.dropLast ++ [2], c) else none) = R
  have HR : Hid _ := hR
  clear hR
  have HW : Hid _ := hw1
  clear h H0 hw1
  go_enter Tryz.func188, Tryz.ntmps188
  go_wp2_with fail
  rw [HW.out]
  go_region_held3 (fun w' => True) (exact trivial)
    (first
      | (go_at_call 232; refine (W2 _ (by assumption)).mono ?_; rintro e w3 ⟨rfl, hout3⟩)
      | (go_at_call 232; refine W1.mono ?_; rintro e w2 ⟨rfl, hout2⟩))
  have HU : Hid _ := hout3
  clear hout2 hout3
  by_cases hq : q = r
  · subst hq
    by_cases h0 : q = 0
    · subst h0
      go_wp2_with (
        go_at_call 231
        refine (W3 _ HU.out).mono ?_
        rintro e w4 ⟨rfl, hout⟩
        have HV : Hid _ := hout
        clear hout)
      go_ret
      rw [← HR.out, if_neg (by simp)]
      exact ⟨rfl, H.out.only _ (SetOut.only HV.out)⟩
    · have h0' : (q != 0) = true := by simpa using h0
      have H0 : Hid _ := h0
      clear h0
      go_wp2_with (
        go_at_call 231
        refine (W3 _ HU.out).mono ?_
        rintro e w4 ⟨rfl, hout⟩
        have HV : Hid _ := hout
        clear hout)
      go_ret
      rw [← HR.out, if_pos ⟨by trivial, H0.out⟩]
      exact ⟨rfl, H.out.out _ _ _ HV.out⟩
  · have hq' : (q == r) = false := by simpa using hq
    have H0 : Hid _ := hq
    clear hq
    go_wp2_with (
      go_at_call 231
      refine (W3 _ HU.out).mono ?_
      rintro e w4 ⟨rfl, hout⟩
      have HV : Hid _ := hout
      clear hout)
    go_ret
    rw [← HR.out, if_neg (fun h => H0.out h.1)]
    exact ⟨rfl, H.out.only _ (SetOut.only HV.out)⟩
end Go.Proofs.YtfkdailfcmnjlaaGreatDoor
