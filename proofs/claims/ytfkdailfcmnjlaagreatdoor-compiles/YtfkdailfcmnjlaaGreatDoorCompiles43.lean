/-
  The program's code.Write: a number in bytes. The program's code.Write: where instructions begin. A code written: its bytes. The document's does, of every instruction. The document's meets. The document's leads: the places tw which an instruction leads.
-/
import Derived.Test.YtfkdailfcmnjlaaGreatDoorCompiles01
import Derived.Test.YtfkdailfcmnjlaaGreatDoorCompiles02
import Derived.Test.YtfkdailfcmnjlaaGreatDoorCompiles04
import Derived.Test.YtfkdailfcmnjlaaGreatDoorCompiles05
import Derived.Test.YtfkdailfcmnjlaaGreatDoorCompiles06
import Derived.Test.YtfkdailfcmnjlaaGreatDoorCompiles07
import Derived.Test.YtfkdailfcmnjlaaGreatDoorCompiles08
import Derived.Test.YtfkdailfcmnjlaaGreatDoorCompiles09
import Derived.Test.YtfkdailfcmnjlaaGreatDoorCompiles10
import Derived.Test.YtfkdailfcmnjlaaGreatDoorCompiles11
import Derived.Test.YtfkdailfcmnjlaaGreatDoorCompiles12
import Derived.Test.YtfkdailfcmnjlaaGreatDoorCompiles13
import Derived.Test.YtfkdailfcmnjlaaGreatDoorCompiles14
import Derived.Test.YtfkdailfcmnjlaaGreatDoorCompiles15
import Derived.Test.YtfkdailfcmnjlaaGreatDoorCompiles16
import Derived.Test.YtfkdailfcmnjlaaGreatDoorCompiles17
import Derived.Test.YtfkdailfcmnjlaaGreatDoorCompiles18
import Derived.Test.YtfkdailfcmnjlaaGreatDoorCompiles19
import Derived.Test.YtfkdailfcmnjlaaGreatDoorCompiles20
import Derived.Test.YtfkdailfcmnjlaaGreatDoorCompiles21
import Derived.Test.YtfkdailfcmnjlaaGreatDoorCompiles22
import Derived.Test.YtfkdailfcmnjlaaGreatDoorCompiles23
import Derived.Test.YtfkdailfcmnjlaaGreatDoorCompiles24
import Derived.Test.YtfkdailfcmnjlaaGreatDoorCompiles25
import Derived.Test.YtfkdailfcmnjlaaGreatDoorCompiles26
import Derived.Test.YtfkdailfcmnjlaaGreatDoorCompiles27
import Derived.Test.YtfkdailfcmnjlaaGreatDoorCompiles28
import Derived.Test.YtfkdailfcmnjlaaGreatDoorCompiles29
import Derived.Test.YtfkdailfcmnjlaaGreatDoorCompiles30
import Derived.Test.YtfkdailfcmnjlaaGreatDoorCompiles31
import Derived.Test.YtfkdailfcmnjlaaGreatDoorCompiles32
import Derived.Test.YtfkdailfcmnjlaaGreatDoorCompiles34
import Derived.Test.YtfkdailfcmnjlaaGreatDoorCompiles35
import Derived.Test.YtfkdailfcmnjlaaGreatDoorCompiles36
import Derived.Test.YtfkdailfcmnjlaaGreatDoorCompiles37
import Derived.Test.YtfkdailfcmnjlaaGreatDoorCompiles38
import Derived.Test.YtfkdailfcmnjlaaGreatDoorCompiles39
import Derived.Test.YtfkdailfcmnjlaaGreatDoorCompiles40
import Derived.Test.YtfkdailfcmnjlaaGreatDoorCompiles41
import Derived.Test.YtfkdailfcmnjlaaGreatDoorCompiles42
import Derived.Test.YtfkdailfcmnjlaaGreatDoorLays
import Derived.Test.YtfkdailfcmnjlaaGreatDoorLays2
import Derived.WalkKit
import Derived.Deep.QuietTactic
import Derived.BigQuiet
import Derived.WalkSpells
import GoSem.Op.String
import Derived.Deep.AppendLies
import Derived.Deep.RegionHeld3
import Derived.Deep.DrawnRows
import Derived.Deep.RegionHeldLaw
import Derived.Deep.RegionLaw
import Derived.Lib.ParseIntBCases
import Derived.Deep.OwnRows
import Derived.Lib.LaidTab
import Derived.Lib.AppendIntMem
import Derived.Shelf.Strings.Builder1
import Derived.Laws.CopyOwn
import Derived.Deep.DeepCutAuto
import Derived.WalkSmall
import Derived.Lib.AppendZerosOnto
set_option linter.unusedVariables false
set_option linter.unusedSimpArgs false
namespace Go.Proofs.YtfkdailfcmnjlaaGreatDoor
open Go Go.RowKit
set_option maxRecDepth 100000
attribute [local go_sem ↓] Go.wp_at_zero Go.wp_at_succ

/-- A row of bytes that a value has for itself. -/
def BR (w : World) (v : Value) (bs : List UInt8) : Prop := w.ownsRow 0 5 1 v bs.length (bs.map fun c => Value.int .u8 (c.toNat : Nat))
theorem BR.sl {w : World} {v : Value} {l : List UInt8} (h : BR w v l) : ∃ a cap, v = .slice a l.length cap := by
  obtain ⟨hl, h⟩ := h
  rcases h with ⟨rfl, h0⟩ | ⟨g, cap, cur, rfl, hb, hg, h1, h2, h3, h4⟩
  · exact ⟨none, 0, by rw [h0]⟩
  · exact ⟨_, _, rfl⟩
theorem info_u8 : (Tryz.prog.info? 5).map (fun i => (i.zero, i.size, i.bytes)) = some (some (.int .u8 0), 1, 1) := by kernel_rfl
theorem numB_app (n : Int) (c : Nat) : ∀ k, k ≤ c → (numB n c).take k = (List.range k).map fun j => byteN n (c - 1 - j) := by
  intro k hk
  apply List.ext_getElem?
  intro i
  by_cases hi : i < k
  · have h1 : i < (numB n c).length := by rw [numB_len]; omega
    rw [List.getElem?_take, if_pos hi, List.getElem?_map, List.getElem?_range hi, List.getElem?_eq_getElem h1]
    have h2 := numB_at n c i (by omega)
    unfold byteAt at h2
    rw [List.getD_eq_getElem?_getD, List.getElem?_eq_getElem h1] at h2
    simp only [Option.getD_some, Option.map_some] at h2 ⊢
    rw [UInt8.toNat_inj.1 h2]
  · rw [List.getElem?_take, if_neg hi, List.getElem?_eq_none (by simp; omega)]
structure ApI (w wr : World) (v bv : Value) (bs : List UInt8) (n : Int) (c k : Nat) : Prop where
  row : BR wr bv (bs ++ (numB n c).take k)
  only : Only (fun b => v.ownBlock = some b) w wr
  own : ∀ b, bv.ownBlock = some b → v.ownBlock = some b ∨ w.heap.size ≤ b
set_option maxHeartbeats 2000000 in
theorem appendNumber_any {v : Value} {bs : List UInt8} (n : Int) (c : Nat) (hc : c ≤ 8) {w : World} (h : BR w v bs) (hl : bs.length ≤ 10000) :
    Calls Tryz.prog 140 #[v, .int .i64 n, .int .i64 c] w fun e w' => (∃ v', e = .returned v' ∧ BR w' v' (bs ++ numB n c) ∧ ∀ b, v'.ownBlock = some b → v.ownBlock = some b ∨ w.heap.size ≤ b) ∧ Only (fun b => v.ownBlock = some b) w w' := by
  obtain ⟨i0, hi, hz⟩ := Option.map_eq_some_iff.1 info_u8
  simp only [Prod.mk.injEq] at hz
  obtain ⟨hz0, hz1, hz2⟩ := hz
  have HI0 : Hid (ApI w w v v bs n c 0) := ⟨by simpa using h, Only.refl _ _, fun _ hb => .inl hb⟩
  obtain ⟨a, cap, hv⟩ := h.sl
  clear h
  go_enter Tryz.func140, Tryz.ntmps140
  go_wp2_with fail
  go_loopw [0, 7] (fun bv lv wr => ∃ k : Nat, k ≤ c ∧ lv = .int .i64 ((c : Int) - 1 - k) ∧ Hid (ApI w wr v bv bs n c k)) (fun _ lv _ => ((intOf lv) + 1).toNat)
  case atStart => exact ⟨0, Nat.zero_le _, by simp, HI0.out⟩
  case round =>
    obtain ⟨k, hk, rfl, HI⟩ := hrel
    obtain ⟨hB, hO, hF⟩ := HI.out
    by_cases hlt : k < c
    · obtain ⟨a2, cap2, rfl⟩ := hB.sl
      obtain ⟨m, hm⟩ : ∃ m : Nat, c = k + 1 + m := ⟨c - (k + 1), by omega⟩
      have hm2 : (c : Int) - 1 - k = (m : Int) := by omega
      have hlen : (bs ++ (numB n c).take k).length = bs.length + k := by rw [List.length_append, List.length_take, numB_len]; omega
      rw [hm2]
      rw [hlen] at hB hF ⊢
      have hm7 : m ≤ 7 := by omega
      have HR : Hid (wr.ownsRow 0 5 1 (.slice a2 (bs.length + k) cap2) (bs.length + k) ((bs ++ (numB n c).take k).map fun c => Value.int .u8 (c.toNat : Nat))) := by
        have h := hB
        unfold BR at h
        rw [hlen] at h
        exact h
      have HV : Hid (n / 2 ^ (8 * m) % 256 = (((byteN n m).toNat : Nat) : Int)) := by
        show _ = _
        rw [byteN_at, Int.pow_mul]
        have h1 : 0 ≤ (n / ((2 : Int) ^ 8) ^ m) % 256 := Int.emod_nonneg _ (by decide)
        have h2 : ((2 : Int) ^ 8) = 256 := by decide
        rw [h2] at h1 ⊢
        omega
      have HT : Hid (bs ++ (numB n c).take (k + 1) = (bs ++ (numB n c).take k) ++ [byteN n m]) := by
        show _ = _
        rw [numB_app n c (k + 1) (by omega), numB_app n c k (by omega), List.range_succ, List.map_append, List.append_assoc]
        have e : c - 1 - k = m := by omega
        simp [e]
      have HO : Hid _ := hO
      have HF : Hid _ := hF
      have HLen : Hid _ := hlen
      have HM : Hid _ := hm
      clear hB HI HI0 hO hF hlen hm hm2
      go_wp2_with (
        at_builtin
        go_must (refine wpList_append_lies _ (by rfl) _ _ 155 (by rfl) 0 5 i0 (.int .u8 0) 1 1 Tryz.underlying155 hi hz0 hz1 hz2 (by rfl) (by decide) _ _ _ (by rfl) (HR.out.alloc _) ⟨wr.heap.size, 0, none⟩ 1 1 [.int .u8 (n / 2 ^ (8 * m) % 256)] (by rfl) (by rfl) (World.news_of_block (heap_alloc_new wr _)) (fun x hx => by simp at hx; rcases hx with rfl; rfl) (by decide) (by unfold maxLen; omega) (by omega) (by simp) _ rfl ?_)
        intro gg cap' w5 hown3 hgrow hat hlt3)
      have HN : Hid (ApI w w5 v (.slice (some ⟨gg, 0, none⟩) (bs.length + k + 1) cap') bs n c (k + 1)) := by
        have hon : Only (fun b => (Value.slice a2 (bs.length + k) cap2).ownBlock = some b) wr w5 := ((Only.refl (fun b => (Value.slice a2 (bs.length + k) cap2).ownBlock = some b) wr).alloc _).grown hgrow (fun k hk => .inl hk)
        refine ⟨?_, HO.out.trans hon (fun _ _ h => h) (fun i hi h => ?_), fun b hb => ?_⟩
        · rw [HT.out]
          unfold BR
          rw [List.length_append, HLen.out, List.map_append]
          have e : List.map (fun c => Value.int .u8 ((c.toNat : Nat) : Int)) [byteN n m] = [.int .u8 (n / 2 ^ (8 * m) % 256)] := by rw [HV.out]; rfl
          rw [e]
          exact hown3
        · rcases HF.out i h with h | h
          · exact h
          · omega
        · simp [Value.ownBlock] at hb
          subst hb
          rcases hat with h | h
          · exact HF.out _ h
          · right
            have := HO.out.size
            rw [h, World.size_alloc]; omega
      go_roundw
      case rel => exact ⟨k + 1, by omega, by have := HM.out; congr 1; omega, HN.out⟩
      case measure => have := HM.out; simp [intOf]
    · obtain rfl : k = c := by omega
      have HL : Hid _ := HI.out
      clear hB hO hF HI HI0
      go_wp2
      go_ret
      obtain ⟨hB, hO, hF⟩ := HL.out
      rw [List.take_of_length_le (by rw [numB_len]; exact Nat.le_refl _)] at hB
      exact ⟨⟨_, rfl, hB, hF⟩, hO⟩
end Go.Proofs.YtfkdailfcmnjlaaGreatDoor

namespace Go.Proofs.YtfkdailfcmnjlaaGreatDoor
open Go Go.RowKit
set_option maxRecDepth 100000
attribute [local go_sem ↓] Go.wp_at_zero Go.wp_at_succ

/-- Where an instruction begins. -/
def plL (l : List L3) (i : Nat) : Nat := 3 + ((l.take i).map fun x => 1 + followP x.op).sum
theorem plL_zero (l : List L3) : plL l 0 = 3 := by simp [plL]
theorem plL_succ {l : List L3} {i : Nat} (h : i < l.length) : plL l (i + 1) = plL l i + (1 + followP (l.getD i noL3).op) := by
  unfold plL
  rw [List.take_add_one, List.getElem?_eq_getElem h, List.getD_eq_getElem?_getD, List.getElem?_eq_getElem h, List.map_append, List.sum_append]
  simp only [Option.toList_some, List.map_cons, List.map_nil, List.sum_cons, List.sum_nil, Option.getD_some]
  omega
theorem plL_le (l : List L3) (i : Nat) : plL l i ≤ 3 + 9 * i := by
  induction i with
  | zero => simp [plL]
  | succ i ih =>
    by_cases h : i < l.length
    · rw [plL_succ h]
      have := follow_le (l.getD i noL3).op
      omega
    · unfold plL at ih ⊢
      rw [List.take_of_length_le (by omega)] at ih ⊢
      omega
def plcs (l : List L3) (k : Nat) : List Int := (List.range l.length).map fun i => if i < k then ((plL l i : Nat) : Int) else 0
theorem plcs_len (l : List L3) (k : Nat) : (plcs l k).length = l.length := by simp [plcs]
theorem plcs_set (l : List L3) {k : Nat} (h : k < l.length) : (plcs l k).set k ((plL l k : Nat) : Int) = plcs l (k + 1) := by
  apply List.ext_getElem?
  intro i
  by_cases hi : i < l.length
  · have e : ∀ k, (plcs l k)[i]? = some (if i < k then ((plL l i : Nat) : Int) else 0) := fun k => by simp [plcs, hi]
    by_cases e1 : k = i
    · subst e1
      rw [List.getElem?_set_self (by rw [plcs_len]; exact h), e, if_pos (by omega)]
    · rw [List.getElem?_set_ne e1, e, e]
      by_cases e2 : i < k
      · rw [if_pos e2, if_pos (by omega)]
      · rw [if_neg e2, if_neg (by omega)]
  · rw [List.getElem?_eq_none (by rw [List.length_set, plcs_len]; omega), List.getElem?_eq_none (by rw [plcs_len]; omega)]
/-- Instructions in memory, to be read. -/
def InsR (w : World) (lv : Value) (l : List L3) : Prop := ∃ a cap, lv = .slice a l.length cap ∧ ∀ j, j < l.length → ∃ g, a = some ⟨g, 0, none⟩ ∧ w.cell? ⟨g, j * 4, none⟩ = some (.int .i64 ((l.getD j noL3).op : Nat)) ∧ w.cell? ⟨g, j * 4 + 1, none⟩ = some (.int .i64 (l.getD j noL3).n) ∧ w.cell? ⟨g, j * 4 + 2, none⟩ = some (.int .i64 ((l.getD j noL3).tj : Nat)) ∧ w.cell? ⟨g, j * 4 + 3, none⟩ = some (.int .i64 0)
theorem InsR.below {w w' : World} {lv : Value} {l : List L3} (h : InsR w lv l) (hb : Below w.heap.size w w') : InsR w' lv l := by
  obtain ⟨a, cap, e, hc⟩ := h
  refine ⟨a, cap, e, fun j hj => ?_⟩
  obtain ⟨g, e2, c0, c1, c2, c3⟩ := hc j hj
  have hl : g < w.heap.size := World.block_lt_of_cell? w _ c0
  exact ⟨g, e2, by rw [hb.cell (p := ⟨g, j * 4, none⟩) hl]; exact c0, by rw [hb.cell (p := ⟨g, j * 4 + 1, none⟩) hl]; exact c1, by rw [hb.cell (p := ⟨g, j * 4 + 2, none⟩) hl]; exact c2, by rw [hb.cell (p := ⟨g, j * 4 + 3, none⟩) hl]; exact c3⟩
theorem LyAt.ins {w : World} {lp : Nat} {jmp : Bool} {v : Value} {l : List L3} {dep cells : Nat} (h : LyAt w lp jmp v l dep cells) : InsR w v l := by
  by_cases h0 : 0 < l.length
  · obtain ⟨g, cap, e, _, hlt⟩ := World.ownsRow.form h.row h0
    subst e
    refine ⟨_, cap, rfl, fun j hj => ⟨g, rfl, ?_⟩⟩
    obtain ⟨a, b, c, d⟩ := l3c_at l j hj
    have hc := fun q (hq : q < l.length * 4) => World.ownsRow.cellAt h.row q (by omega)
    exact ⟨(hc (j * 4) (by omega)).trans a, (hc (j * 4 + 1) (by omega)).trans b, (hc (j * 4 + 2) (by omega)).trans c, (hc (j * 4 + 3) (by omega)).trans d⟩
  · have e : l = [] := List.eq_nil_of_length_eq_zero (by omega)
    subst e
    obtain ⟨hl, hr⟩ := h.row
    rcases hr with ⟨rfl, _⟩ | ⟨g, cap, cur, rfl, _⟩
    · exact ⟨none, 0, rfl, fun j hj => by simp at hj⟩
    · exact ⟨_, cap, rfl, fun j hj => by simp at hj⟩
theorem info_int : (Tryz.prog.info? 3).map (fun i => (i.zero, i.size, i.bytes)) = some (some (.int .i64 0), 1, 8) := by kernel_rfl
set_option maxHeartbeats 4000000 in
theorem pbegins_any {lv : Value} {l : List L3} {w : World} (h : InsR w lv l) (hl : l.length ≤ 5000) :
    Calls Tryz.prog 137 #[lv] w fun e w' => (∃ g, e = .returned (.slice (some ⟨g, 0, none⟩) l.length l.length) ∧ w.heap.size ≤ g ∧ w'.heap[g]? = some (.cells ((plcs l l.length).map (Value.int .i64)).toArray 3 (0, 0))) ∧ Below w.heap.size w w' := by
  have hmk := run_make_row' (P := Tryz.prog) 38 3 (.int .i64 0) 8 Tryz.underlying38 info_int rfl .i64 .i64 l.length (by omega) (by omega)
  have HI : Hid _ := h
  have W1 := fun op n tj w => psize_any op n tj 0 w
  obtain ⟨a, cap, rfl, _⟩ := h
  have HI0 : Hid ((w.alloc (.cells (madeCells #[.int .i64 0] l.length) 3)).heap[w.heap.size]? = some (.cells ((plcs l 0).map (Value.int .i64)).toArray 3 (0, 0)) ∧ Below w.heap.size w (w.alloc (.cells (madeCells #[.int .i64 0] l.length) 3))) := by
    refine ⟨?_, (Below.refl _ _).alloc (Nat.le_refl _) _⟩
    have e : madeCells #[.int .i64 0] l.length = ((plcs l 0).map (Value.int .i64)).toArray := by
      apply Array.ext
      · rw [size_madeCells]; simp [plcs]
      · intro i h1 h2
        simp [madeCells, plcs, Nat.mod_one]
    rw [← e]
    exact heap_alloc_new w _
  unfold insV at W1
  go_enter Tryz.func137, Tryz.ntmps137
  go_wp2_with fail
  generalize w.alloc (.cells (madeCells #[.int .i64 0] l.length) 3) = W0 at *
  go_loopw [4, 12] (fun av kv wr => ∃ k : Nat, k ≤ l.length ∧ kv = .int .i64 k ∧ av = .int .i64 (plL l k : Nat) ∧ Hid (wr.heap[w.heap.size]? = some (.cells ((plcs l k).map (Value.int .i64)).toArray 3 (0, 0)) ∧ Below w.heap.size w wr)) (fun _ kv _ => l.length - (intOf kv).toNat)
  case atStart => exact ⟨0, Nat.zero_le _, rfl, by rw [plL_zero]; rfl, HI0.out⟩
  case round =>
    obtain ⟨k, hk, rfl, rfl, HX⟩ := hrel
    obtain ⟨hblk, hbel⟩ := HX.out
    by_cases hlt : k < l.length
    · obtain ⟨a', cap', e', hc⟩ := InsR.below (w := w) HI.out hbel
      simp only [Value.slice.injEq, true_and] at e'
      obtain ⟨rfl, rfl⟩ := e'
      obtain ⟨g, rfl, c0, c1, c2, c3⟩ := hc k hlt
      have hkb : (0 : Int) ≤ (k : Int) ∧ (k : Int) < (l.length : Int) := by omega
      have hple := plL_le l k
      have HS : Hid _ := plL_succ hlt
      have hfl := follow_le (l.getD k noL3).op
      have hgl : g < wr.heap.size := World.block_lt_of_cell? wr _ c0
      have hwl := lt_of_get hblk
      have hpc : wr.cell? ⟨w.heap.size, k, none⟩ = some (.int .i64 ((plcs l k).getD k 0)) := by
        rw [cell_of_row wr _ k _ _ _ hblk, List.getElem?_toArray, List.getElem?_map, List.getD_eq_getElem?_getD, List.getElem?_eq_getElem (by rw [plcs_len]; exact hlt)]; rfl
      have hpf : wr.frozen? ⟨w.heap.size, k, none⟩ = false := by simp [World.frozen?, hblk]
      have k1 : w.heap.size ≠ wr.heap.size := by omega
      have HB : Hid (∀ o w2, Below ((wr.setCell ⟨w.heap.size, k, none⟩ (.int .i64 (plL l k : Nat))).alloc o).heap.size ((wr.setCell ⟨w.heap.size, k, none⟩ (.int .i64 (plL l k : Nat))).alloc o) w2 → w2.heap[w.heap.size]? = some (.cells ((plcs l (k + 1)).map (Value.int .i64)).toArray 3 (0, 0)) ∧ Below w.heap.size w w2) := fun o w2 hb => by
        have q0 : Below w.heap.size w (wr.setCell ⟨w.heap.size, k, none⟩ (.int .i64 (plL l k : Nat))) := hbel.setCell (Nat.le_refl _) _
        have q1 : Below w.heap.size w ((wr.setCell ⟨w.heap.size, k, none⟩ (.int .i64 (plL l k : Nat))).alloc o) := q0.alloc q0.size _
        refine ⟨(hb.block _ (by simp; omega)).trans ((Below.heap_alloc _ o _ (by simpa using hwl)).trans ?_), q1.trans (hb.mono q1.size)⟩
        rw [heap_setCell_same wr _ k _ _ _ hblk, ← plcs_set l hlt, List.map_set]
        simp
      generalize plL l k = pp at *
      generalize (l.getD k noL3).op = op at *
      generalize (l.getD k noL3).n = nn at *
      generalize (l.getD k noL3).tj = tt at *
      generalize (plcs l k).getD k 0 = z at *
      clear HI0 HX hblk hbel hc
      go_wp2_with (first | (go_at_call 139; refine (W1 _ _ _ _).mono ?_; rintro e w2 ⟨rfl, hb2⟩))
      exact ⟨⟨k + 1, by omega, by go_num, by rw [HS.out]; congr 1, HB.out _ _ hb2⟩, by simp [intOf]; omega⟩
    · obtain rfl : k = l.length := by omega
      have HL : Hid _ := HX.out
      clear hblk hbel HX HI0
      go_wp2
      go_ret
      exact ⟨⟨_, rfl, Nat.le_refl _, HL.out.1⟩, HL.out.2⟩
end Go.Proofs.YtfkdailfcmnjlaaGreatDoor

namespace Go.Proofs.YtfkdailfcmnjlaaGreatDoor
open Go Go.RowKit
set_option maxRecDepth 100000
attribute [local go_sem ↓] Go.wp_at_zero Go.wp_at_succ

/-- The number that is written with an instruction. -/
def numL (l : List L3) (i : Nat) (x : L3) : Int := if x.op = 15 ∨ x.op = 16 then (plL l x.tj : Int) - (plL l i : Int) - ((1 + followP x.op : Nat) : Int) else x.n
def encL (l : List L3) (i : Nat) (x : L3) : List UInt8 := UInt8.ofNat x.op :: numB (numL l i x) (followP x.op)
def wrB (l : List L3) (k : Nat) : List UInt8 := (List.range k).flatMap fun i => encL l i (l.getD i noL3)
theorem wrB_succ (l : List L3) (k : Nat) : wrB l (k + 1) = wrB l k ++ encL l k (l.getD k noL3) := by
  unfold wrB; rw [List.range_succ, List.flatMap_append]; simp
theorem wrB_len (l : List L3) (k : Nat) : (wrB l k).length ≤ 9 * k := by
  induction k with
  | zero => simp [wrB]
  | succ k ih =>
    rw [wrB_succ, List.length_append]
    have : (encL l k (l.getD k noL3)).length ≤ 9 := by
      unfold encL; rw [List.length_cons, numB_len]; have := follow_le (l.getD k noL3).op; omega
    omega
/-- The bytes of a code. -/
def wrT (dep cells : Nat) (l : List L3) : List UInt8 := [71, UInt8.ofNat dep, UInt8.ofNat cells] ++ wrB l l.length
/-- What the loop keeps. -/
structure WrI (w wr : World) (pg : Nat) (bv : Value) (dep cells : Nat) (l : List L3) (k : Nat) : Prop where
  row : BR wr bv ([71, UInt8.ofNat dep, UInt8.ofNat cells] ++ wrB l k)
  bel : Below w.heap.size w wr
  pl : wr.heap[pg]? = some (.cells ((plcs l l.length).map (Value.int .i64)).toArray 3 (0, 0))
  own : ∀ b, bv.ownBlock = some b → w.heap.size ≤ b
theorem br_ne {w : World} {v : Value} {l : List UInt8} (h : BR w v l) {p : Nat} {cs : Array Value} {T : TypeId} {z : Nat × Nat} (hp : w.heap[p]? = some (.cells cs T z)) (hT : T ≠ 5) : v.ownBlock ≠ some p := fun e => by
  obtain ⟨cs', hc⟩ := ownsRow_type h e
  rw [hp] at hc; simp at hc; exact hT hc.2.1
theorem WrI.below {w wr w' : World} {pg : Nat} {bv : Value} {dep cells : Nat} {l : List L3} {k : Nat} (h : WrI w wr pg bv dep cells l k) (hb : Below wr.heap.size wr w') : WrI w w' pg bv dep cells l k :=
  ⟨ownsRow_below h.row hb, h.bel.trans (hb.mono h.bel.size), (hb.block _ (lt_of_get h.pl)).trans h.pl, h.own⟩
/-- Bytes more. -/
theorem WrI.more {w wr w' : World} {pg : Nat} {bv bv' : Value} {dep cells : Nat} {l : List L3} {k : Nat} (h : WrI w wr pg bv dep cells l k) {bs : List UInt8} (hr : BR w' bv' bs) (ho : Only (fun b => bv.ownBlock = some b) wr w') (hf : ∀ b, bv'.ownBlock = some b → bv.ownBlock = some b ∨ wr.heap.size ≤ b) :
    BR w' bv' bs ∧ Below w.heap.size w w' ∧ w'.heap[pg]? = some (.cells ((plcs l l.length).map (Value.int .i64)).toArray 3 (0, 0)) ∧ ∀ b, bv'.ownBlock = some b → w.heap.size ≤ b := by
  refine ⟨hr, h.bel.trans (ho.below h.bel.size (fun k _ hk => h.own k hk)), (ho.block _ (lt_of_get h.pl) (br_ne h.row h.pl (by decide))).trans h.pl, fun b hb => ?_⟩
  rcases hf b hb with h1 | h1
  · exact h.own b h1
  · have := h.bel.size; omega
theorem br_snoc {w : World} {g cap op : Nat} {bs : List UInt8} (ho : ((UInt8.ofNat op).toNat : Int) = (op : Int)) (h : w.ownsRow 0 5 1 (.slice (some ⟨g, 0, none⟩) (bs.length + 1) cap) (bs.length + 1) ((bs.map fun c => Value.int .u8 (c.toNat : Nat)) ++ [.int .u8 (op : Nat)])) : BR w (.slice (some ⟨g, 0, none⟩) (bs.length + 1) cap) (bs ++ [UInt8.ofNat op]) := by
  unfold BR
  rw [List.length_append, List.map_append]
  have e : List.map (fun c : UInt8 => Value.int .u8 ((c.toNat : Nat) : Int)) [UInt8.ofNat op] = [.int .u8 (op : Nat)] := by simp only [List.map_cons, List.map_nil, ho]
  rw [e]
  exact h
theorem plcs_at (l : List L3) {i : Nat} (h : i < l.length) : ((plcs l l.length).map (Value.int .i64)).toArray[i]? = some (.int .i64 ((plL l i : Nat) : Int)) := by
  rw [List.getElem?_toArray, List.getElem?_map]
  unfold plcs
  rw [List.getElem?_map, List.getElem?_range h]
  simp [h]
set_option maxHeartbeats 8000000 in
theorem write_any {lv : Value} {l : List L3} {dep cells : Nat} {w : World} (h : InsR w lv l) (hl : l.length ≤ 1000) (hop : ∀ x ∈ l, x.op < 256 ∧ ((x.op = 15 ∨ x.op = 16) → x.tj < l.length)) (hd : dep ≤ 255) (hc : cells ≤ 255) :
    Calls Tryz.prog 94 #[.int .i64 dep, .int .i64 cells, lv] w fun e w' => e = .returned (S (wrT dep cells l)) ∧ Below w.heap.size w w' := by
  have W0 := pbegins_any h (by omega)
  have HI : Hid _ := h
  have HOP : Hid (∀ i, i < l.length → (l.getD i noL3).op < 256 ∧ (((l.getD i noL3).op = 15 ∨ (l.getD i noL3).op = 16) → (l.getD i noL3).tj < l.length)) := fun i hi => by
    have := hop (l.getD i noL3) (by rw [List.getD_eq_getElem?_getD, List.getElem?_eq_getElem hi]; exact List.getElem_mem _)
    exact this
  obtain ⟨i0, hi, hz⟩ := Option.map_eq_some_iff.1 info_u8
  simp only [Prod.mk.injEq] at hz
  obtain ⟨hz0, hz1, hz2⟩ := hz
  obtain ⟨a, cap, rfl, _⟩ := h
  clear hop
  go_enter Tryz.func94, Tryz.ntmps94
  go_wp2_with fail
  refine W0.mono ?_
  rintro e w1 ⟨⟨pg, rfl, hpg, hpl⟩, hb1⟩
  have ed : ((UInt8.ofNat dep).toNat : Int) = (dep : Int) := by rw [UInt8.toNat_ofNat']; omega
  have ec : ((UInt8.ofNat cells).toNat : Int) = (cells : Int) := by rw [UInt8.toNat_ofNat']; omega
  have HI0 : Hid (WrI w (w1.alloc (.cells #[.int .u8 71, .int .u8 (dep : Nat), .int .u8 (cells : Nat)] 5)) pg (.slice (some ⟨w1.heap.size, 0, none⟩) 3 3) dep cells l 0) := by
    have hbA : Below w1.heap.size w1 (w1.alloc (.cells #[.int .u8 71, .int .u8 (dep : Nat), .int .u8 (cells : Nat)] 5)) := (Below.refl _ _).alloc (Nat.le_refl _) _
    refine ⟨?_, hb1.trans (hbA.mono hb1.size), (hbA.block _ (lt_of_get hpl)).trans hpl, fun b hb => ?_⟩
    · refine ⟨rfl, .inr ⟨w1.heap.size, 3, #[.int .u8 71, .int .u8 (dep : Nat), .int .u8 (cells : Nat)], rfl, Nat.zero_le _, heap_alloc_new w1 _, Nat.le_refl _, by unfold maxLen; omega, rfl, ?_⟩⟩
      simp [wrB]; omega
    · simp [Value.ownBlock] at hb
      have := hb1.size
      omega
  clear ed ec hpl hb1 W0
  go_wp2_with fail
  go_loopw [8, 21] (fun bv iv wr => ∃ k : Nat, k ≤ l.length ∧ iv = .int .i64 k ∧ Hid (WrI w wr pg bv dep cells l k)) (fun _ iv _ => l.length - (intOf iv).toNat)
  case atStart => exact ⟨0, Nat.zero_le _, rfl, HI0.out⟩
  case round =>
    obtain ⟨k, hk, rfl, HX⟩ := hrel
    by_cases hlt : k < l.length
    · have hX := HX.out
      obtain ⟨bs, hbs⟩ : ∃ bs : List UInt8, [71, UInt8.ofNat dep, UInt8.ofNat cells] ++ wrB l k = bs := ⟨_, rfl⟩
      have hrow := hX.row
      rw [hbs] at hrow
      have hbl : bs.length ≤ 9003 := by rw [← hbs]; have := wrB_len l k; simp; omega
      have HBS : Hid _ := hbs
      clear hbs
      obtain ⟨ba, bcap, rfl⟩ := BR.sl hrow
      have HROW : Hid (BR wr (.slice ba bs.length bcap) bs) := hrow
      clear hrow
      obtain ⟨a', cap', e', hcl⟩ := InsR.below (w := w) HI.out hX.bel
      simp only [Value.slice.injEq, true_and] at e'
      obtain ⟨rfl, rfl⟩ := e'
      obtain ⟨g, rfl, c0, c1, c2, c3⟩ := hcl k hlt
      obtain ⟨ho1, ho2⟩ := HOP.out k hlt
      have hkb : (0 : Int) ≤ (k : Int) ∧ (k : Int) < (l.length : Int) := by omega
      have HNX : Hid (wrB l (k + 1) = wrB l k ++ (UInt8.ofNat (l.getD k noL3).op :: numB (numL l k (l.getD k noL3)) (followP (l.getD k noL3).op))) := wrB_succ l k
      have HNL : Hid (numL l k (l.getD k noL3) = if (l.getD k noL3).op = 15 ∨ (l.getD k noL3).op = 16 then (plL l (l.getD k noL3).tj : Int) - (plL l k : Int) - ((1 + followP (l.getD k noL3).op : Nat) : Int) else (l.getD k noL3).n) := rfl
      have hwb := wrB_len l k
      have hp0 := (cell_of_row wr _ k _ _ _ hX.pl).trans (plcs_at l hlt)
      have hpT : (l.getD k noL3).tj < l.length → wr.cell? ⟨pg, (l.getD k noL3).tj, none⟩ = some (.int .i64 ((plL l (l.getD k noL3).tj : Nat) : Int)) := fun ht => (cell_of_row wr _ _ _ _ _ hX.pl).trans (plcs_at l ht)
      have hpb := plL_le l k
      have hpb2 := fun (ht : (l.getD k noL3).tj < l.length) => plL_le l (l.getD k noL3).tj
      generalize numL l k (l.getD k noL3) = nL at *
      generalize (l.getD k noL3).op = op at *
      generalize (l.getD k noL3).n = nn at *
      generalize (l.getD k noL3).tj = tj at *
      have hfl := follow_le op
      have W1 := fun w => jumps_any op nn tj 0 w
      have W2 := fun w => psize_any op nn tj 0 w
      have W3 := fun w => following_any op w
      unfold insV at W1 W2
      have ho8 : ((UInt8.ofNat op).toNat : Int) = (op : Int) := by rw [UInt8.toNat_ofNat']; omega
      have HO8 : Hid _ := ho8
      have hgl : g < wr.heap.size := World.block_lt_of_cell? wr _ c0
      have g1 : g ≠ wr.heap.size := by omega
      have g2 : wr.heap.size ≠ g := by omega
      have hA : Below wr.heap.size wr (wr.alloc (.cells #[.int .i64 (op : Nat), .int .i64 nn, .int .i64 (tj : Nat), .int .i64 0] 247)) := (Below.refl _ _).alloc (Nat.le_refl _) _
      have hxA : (wr.alloc (.cells #[.int .i64 (op : Nat), .int .i64 nn, .int .i64 (tj : Nat), .int .i64 0] 247)).heap[wr.heap.size]? = some (.cells #[.int .i64 (op : Nat), .int .i64 nn, .int .i64 (tj : Nat), .int .i64 0] 247 (0, 0)) := heap_alloc_new wr _
      have HXA : Hid _ := hxA
      have HA : Hid _ := hA
      have HBX : Hid _ := hX
      clear hX HX ho8 hcl hA hxA
      by_cases hj : op = 15 ∨ op = 16
      · have ht := ho2 hj
        have hb2 := hpb2 ht
        have ej : decide (op = 15 ∨ op = 16) = true := decide_eq_true hj
        rw [ej] at W1
        rw [if_pos hj] at HNL
        clear hpT hpb2 ho2 ej hj
        go_wp2_with fail
        refine (W1 _).mono ?_
        rintro e w2 ⟨rfl, hbc⟩
        have hB2 : Below wr.heap.size wr w2 := HA.out.trans (hbc.mono HA.out.size)
        have h2 := HBX.out.below hB2
        have x2 := (hbc.block _ (by simp)).trans HXA.out
        have P0 : ∀ W, Below w2.heap.size w2 W → W.cell? ⟨pg, k, none⟩ = some (.int .i64 ((plL l k : Nat) : Int)) := fun W hb => by rw [hb.cell (p := ⟨pg, k, none⟩) (lt_of_get h2.pl)]; exact (cell_of_row w2 _ k _ _ _ h2.pl).trans (plcs_at l hlt)
        have P1 : ∀ W, Below w2.heap.size w2 W → W.cell? ⟨pg, tj, none⟩ = some (.int .i64 ((plL l tj : Nat) : Int)) := fun W hb => by rw [hb.cell (p := ⟨pg, tj, none⟩) (lt_of_get h2.pl)]; exact (cell_of_row w2 _ tj _ _ _ h2.pl).trans (plcs_at l ht)
        have X0 : ∀ W, Below w2.heap.size w2 W → W.cell? ⟨wr.heap.size, 0, none⟩ = some (.int .i64 (op : Nat)) := fun W hb => by rw [hb.cell (p := ⟨wr.heap.size, 0, none⟩) (lt_of_get x2)]; exact cell_of_row w2 _ 0 _ _ _ x2
        have X1 : ∀ W, Below w2.heap.size w2 W → W.cell? ⟨wr.heap.size, 1, none⟩ = some (.int .i64 nn) := fun W hb => by rw [hb.cell (p := ⟨wr.heap.size, 1, none⟩) (lt_of_get x2)]; exact cell_of_row w2 _ 1 _ _ _ x2
        have X2 : ∀ W, Below w2.heap.size w2 W → W.cell? ⟨wr.heap.size, 2, none⟩ = some (.int .i64 (tj : Nat)) := fun W hb => by rw [hb.cell (p := ⟨wr.heap.size, 2, none⟩) (lt_of_get x2)]; exact cell_of_row w2 _ 2 _ _ _ x2
        have X3 : ∀ W, Below w2.heap.size w2 W → W.cell? ⟨wr.heap.size, 3, none⟩ = some (.int .i64 0) := fun W hb => by rw [hb.cell (p := ⟨wr.heap.size, 3, none⟩) (lt_of_get x2)]; exact cell_of_row w2 _ 3 _ _ _ x2
        have hS0 : Below w2.heap.size w2 w2 := Below.refl _ _
        have KD : Hid (∀ W : World, Below w2.heap.size w2 W → Below w2.heap.size w2 W.drew) := fun W h => h.drew
        have KB : Hid (∀ W W' : World, Below w2.heap.size w2 W → Below W.heap.size W W' → Below w2.heap.size w2 W') := fun W W' h h' => h.trans (h'.mono h.size)
        have htb : (0 : Int) ≤ (tj : Int) ∧ (tj : Int) < (l.length : Int) := by omega
        have hso : 1 + followP op ≤ 9 := by omega
        generalize 1 + followP op = so at *
        generalize plL l tj = pt at *
        generalize plL l k = pk at *
        have hr1 : IntKind.i64.wrap ((pt : Int) - (pk : Int)) = (pt : Int) - (pk : Int) := by rw [IntKind.wrap_i64]; omega
        have hr2 : IntKind.i64.wrap ((pt : Int) - (pk : Int) - (so : Int)) = nL := by rw [HNL.out, IntKind.wrap_i64]; omega
        have HH2 : Hid _ := h2
        have HX2 : Hid _ := x2
        have HB2 : Hid _ := hB2
        clear W1 hbc h2 x2 hB2 c0 c1 c2 c3 hp0 hwb HXA HA HBX
        go_wp2_with fail
        go_region_held3 (fun W => Below w2.heap.size w2 W) (first | assumption | exact KB.out _ _ (by assumption) hb3 | exact KD.out _ hS0 | exact KD.out _ (by assumption) | go_keep)
          (first
            | (go_at_call 139; refine (W2 _).mono ?_; rintro e w3 ⟨rfl, hb3⟩))
        all_goals
          rename_i hHeld
          have hB3 : Below wr.heap.size wr w3 := HB2.out.trans (hHeld.mono HB2.out.size)
          have h3 := HH2.out.below hHeld
          have x3 := (hHeld.block _ (lt_of_get HX2.out)).trans HX2.out
          try rw [hr1, hr2]
          have HR : Hid (w3.ownsRow 0 5 1 (.slice ba bs.length bcap) bs.length (bs.map fun c => Value.int .u8 (c.toNat : Nat))) := ownsRow_below HROW.out hB3
          have y0 : w3.cell? ⟨wr.heap.size, 0, none⟩ = some (.int .i64 (op : Nat)) := cell_of_row w3 _ 0 _ _ _ x3
          have hxl := lt_of_get x3
          have HXL : Hid _ := x3
          have HWL : Hid _ := h3
          have HBR : Hid (BR w3 (.slice ba bs.length bcap) bs) := ownsRow_below HROW.out hB3
          have W5 := fun (w' : World) (v : Value) (b2 : List UInt8) (hb : BR w' v b2) (hl : b2.length ≤ 10000) => appendNumber_any nL (followP op) hfl hb hl
          clear hB3 h3 x3 P0 P1 X0 X1 X2 X3 hHeld hb3 hS0 KD KB HNL hr1 hr2 hpb hb2 ht htb hso W2
          go_wp2_with (first
            | (at_builtin; go_must (refine wpList_append_lies _ (by rfl) _ _ 155 (by rfl) 0 5 i0 (.int .u8 0) 1 1 Tryz.underlying155 hi hz0 hz1 hz2 (by rfl) (by decide) _ _ _ (by rfl) (HR.out.alloc _) ⟨w3.heap.size, 0, none⟩ 1 1 [.int .u8 (op : Nat)] (by rfl) (by rfl) (World.news_of_block (heap_alloc_new w3 _)) (fun x hx => by simp at hx; rcases hx with rfl; rfl) (by decide) (by unfold maxLen; omega) (by omega) (by simp) _ rfl ?_); intro gg cap2 w5 hown3 hgrow hat hlt3; have hr5 : BR w5 (.slice (some ⟨gg, 0, none⟩) (bs.length + 1) cap2) (bs ++ [UInt8.ofNat op]) := br_snoc HO8.out hown3; have ho5 : Only (fun b => (Value.slice ba bs.length bcap).ownBlock = some b) w3 w5 := ((Only.refl (fun b => (Value.slice ba bs.length bcap).ownBlock = some b) w3).alloc _).grown hgrow (fun k hk => .inl hk); have x5 := (ho5.block _ hxl (br_ne HBR.out HXL.out (by decide))).trans HXL.out; have z0 : w5.cell? ⟨wr.heap.size, 0, none⟩ = some (.int .i64 (op : Nat)) := cell_of_row w5 _ 0 _ _ _ x5; have hf5 : ∀ b, (Value.slice (some ⟨gg, 0, none⟩) (bs.length + 1) cap2).ownBlock = some b → (Value.slice ba bs.length bcap).ownBlock = some b ∨ w3.heap.size ≤ b := fun b hb => (by simp [Value.ownBlock] at hb; subst hb; rcases hat with h | h; exact .inl h; right; rw [h, World.size_alloc]; omega); have H5 : Hid _ := hr5; have HO5 : Hid _ := ho5; have HF5 : Hid _ := hf5; clear hown3 hgrow hat hlt3 hr5 ho5 x5 hf5)
            | (go_at_call 141; refine (W3 _).mono ?_; rintro e w' ⟨rfl, hw'⟩; have hw2 := hw'.symm; clear hw'; subst hw2))
          refine (W5 _ _ _ H5.out (by simp; omega)).mono ?_
          rintro e w6 ⟨⟨v6, rfl, hr6, hf6⟩, ho6⟩
          have HN : Hid (WrI w w6 pg v6 dep cells l (k + 1)) := by
            obtain ⟨m1, m2, m3, m4⟩ := HWL.out.more hr6 (HO5.out.trans ho6 (fun _ _ h => h) (fun i hi h => (HF5.out i h).resolve_right (by omega))) (fun b hb => by
              rcases hf6 b hb with h | h
              · exact HF5.out b h
              · right; have := HO5.out.size; omega)
            refine ⟨?_, m2, m3, m4⟩
            rw [HNX.out, ← List.append_assoc, HBS.out]
            have e : bs ++ UInt8.ofNat op :: numB nL (followP op) = bs ++ [UInt8.ofNat op] ++ numB nL (followP op) := by simp
            rw [e]
            exact m1
          clear hr6 hf6 ho6 W5 H5 HO5 HF5
          go_wp2_with fail
          go_roundw
          case rel => exact ⟨k + 1, by omega, by go_num, HN.out⟩
          case measure => simp [intOf]; omega
      · have ej : decide (op = 15 ∨ op = 16) = false := decide_eq_false hj
        rw [ej] at W1
        rw [if_neg hj] at HNL
        have HNL2 : Hid (nn = nL) := HNL.out.symm
        clear hpT hpb2 ho2 ej hj HNL W2
        go_wp2_with fail
        refine (W1 _).mono ?_
        rintro e w2 ⟨rfl, hbc⟩
        have hB2 : Below wr.heap.size wr w2 := HA.out.trans (hbc.mono HA.out.size)
        have h2 := HBX.out.below hB2
        have x2 := (hbc.block _ (by simp)).trans HXA.out
        rw [HNL2.out]
        have HR : Hid (w2.ownsRow 0 5 1 (.slice ba bs.length bcap) bs.length (bs.map fun c => Value.int .u8 (c.toNat : Nat))) := ownsRow_below HROW.out hB2
        have y0 : w2.cell? ⟨wr.heap.size, 0, none⟩ = some (.int .i64 (op : Nat)) := cell_of_row w2 _ 0 _ _ _ x2
        have hxl := lt_of_get x2
        have HXL : Hid _ := x2
        have HWL : Hid _ := h2
        have HBR : Hid (BR w2 (.slice ba bs.length bcap) bs) := ownsRow_below HROW.out hB2
        have W5 := fun (w' : World) (v : Value) (b2 : List UInt8) (hb : BR w' v b2) (hl : b2.length ≤ 10000) => appendNumber_any nL (followP op) hfl hb hl
        clear hB2 h2 x2 hbc W1 c0 c1 c2 c3 hp0 hwb HXA HA HBX HNL2 hpb
        go_wp2_with (first
          | (at_builtin; go_must (refine wpList_append_lies _ (by rfl) _ _ 155 (by rfl) 0 5 i0 (.int .u8 0) 1 1 Tryz.underlying155 hi hz0 hz1 hz2 (by rfl) (by decide) _ _ _ (by rfl) (HR.out.alloc _) ⟨w2.heap.size, 0, none⟩ 1 1 [.int .u8 (op : Nat)] (by rfl) (by rfl) (World.news_of_block (heap_alloc_new w2 _)) (fun x hx => by simp at hx; rcases hx with rfl; rfl) (by decide) (by unfold maxLen; omega) (by omega) (by simp) _ rfl ?_); intro gg cap2 w5 hown3 hgrow hat hlt3; have hr5 : BR w5 (.slice (some ⟨gg, 0, none⟩) (bs.length + 1) cap2) (bs ++ [UInt8.ofNat op]) := br_snoc HO8.out hown3; have ho5 : Only (fun b => (Value.slice ba bs.length bcap).ownBlock = some b) w2 w5 := ((Only.refl (fun b => (Value.slice ba bs.length bcap).ownBlock = some b) w2).alloc _).grown hgrow (fun k hk => .inl hk); have x5 := (ho5.block _ hxl (br_ne HBR.out HXL.out (by decide))).trans HXL.out; have z0 : w5.cell? ⟨wr.heap.size, 0, none⟩ = some (.int .i64 (op : Nat)) := cell_of_row w5 _ 0 _ _ _ x5; have hf5 : ∀ b, (Value.slice (some ⟨gg, 0, none⟩) (bs.length + 1) cap2).ownBlock = some b → (Value.slice ba bs.length bcap).ownBlock = some b ∨ w2.heap.size ≤ b := fun b hb => (by simp [Value.ownBlock] at hb; subst hb; rcases hat with h | h; exact .inl h; right; rw [h, World.size_alloc]; omega); have H5 : Hid _ := hr5; have HO5 : Hid _ := ho5; have HF5 : Hid _ := hf5; clear hown3 hgrow hat hlt3 hr5 ho5 x5 hf5)
          | (go_at_call 141; refine (W3 _).mono ?_; rintro e w' ⟨rfl, hw'⟩; have hw2 := hw'.symm; clear hw'; subst hw2))
        refine (W5 _ _ _ H5.out (by simp; omega)).mono ?_
        rintro e w6 ⟨⟨v6, rfl, hr6, hf6⟩, ho6⟩
        have HN : Hid (WrI w w6 pg v6 dep cells l (k + 1)) := by
          obtain ⟨m1, m2, m3, m4⟩ := HWL.out.more hr6 (HO5.out.trans ho6 (fun _ _ h => h) (fun i hi h => (HF5.out i h).resolve_right (by omega))) (fun b hb => by
            rcases hf6 b hb with h | h
            · exact HF5.out b h
            · right; have := HO5.out.size; omega)
          refine ⟨?_, m2, m3, m4⟩
          rw [HNX.out, ← List.append_assoc, HBS.out]
          have e : bs ++ UInt8.ofNat op :: numB nL (followP op) = bs ++ [UInt8.ofNat op] ++ numB nL (followP op) := by simp
          rw [e]
          exact m1
        clear hr6 hf6 ho6 W5 H5 HO5 HF5
        go_wp2_with fail
        go_roundw
        case rel => exact ⟨k + 1, by omega, by go_num, HN.out⟩
        case measure => simp [intOf]; omega
    · obtain rfl : k = l.length := by omega
      have hX := HX.out
      obtain ⟨bs, hbs⟩ : ∃ bs : List UInt8, [71, UInt8.ofNat dep, UInt8.ofNat cells] ++ wrB l l.length = bs := ⟨_, rfl⟩
      have hrow := hX.row
      rw [hbs] at hrow
      have HE : Hid (bs = wrT dep cells l) := hbs.symm
      have h0 : 0 < bs.length := by rw [← hbs]; simp
      obtain ⟨g, bcap, rfl, _, _⟩ := World.ownsRow.form hrow h0
      have hcv : (convert 155 9 (.slice (some ⟨g, 0, none⟩) bs.length bcap)).run Tryz.prog wr = .ok (S bs) wr := by
        refine run_convert_bytes_back wr 155 9 5 ⟨g, 0, none⟩ bcap bs Tryz.underlying155 Tryz.underlying5 Tryz.underlying9 fun j hj => ?_
        have hc := World.ownsRow.cellAt hrow j (by omega)
        rw [Addr.add_mid]
        simp only [Nat.zero_add]
        rw [hc]
        simp [List.getElem?_map, List.getElem?_eq_getElem hj]
      have HBL : Hid _ := hX.bel
      clear hbs hX HX hrow
      go_wp2_with fail
      go_ret
      exact ⟨by show Ending.returned (S bs) = _; rw [HE.out], HBL.out⟩
end Go.Proofs.YtfkdailfcmnjlaaGreatDoor

namespace Go.Proofs.YtfkdailfcmnjlaaGreatDoor
open Go Go.RowKit
set_option maxRecDepth 100000

theorem ins_op {b : List UInt8} {x : Ins} (h : InsOK b x) : byteAt b x.pl = x.op := by have := h.here; rw [this]; rfl
theorem ins_two {b : List UInt8} {x : Ins} (h : InsOK b x) (hs : sizeOp x.op = 2) : x.n = (byteAt b (x.pl + 1) : Int) := by
  have hn : x.n = numAt b x.op x.pl := by have := h.here; rw [this]; rfl
  rw [hn]; unfold numAt
  rw [if_neg (by intro e; rw [e] at hs; simp [sizeOp] at hs), hs]
  simp [beVal]
theorem ins_three {b : List UInt8} {x : Ins} (h : InsOK b x) (hs : sizeOp x.op = 3) : x.n = (byteAt b (x.pl + 1) * 256 + byteAt b (x.pl + 2) : Int) := by
  have hn : x.n = numAt b x.op x.pl := by have := h.here; rw [this]; rfl
  rw [hn]; unfold numAt
  rw [if_neg (by intro e; rw [e] at hs; simp [sizeOp] at hs), hs]
  simp [beVal]
theorem does_anyj {b : List UInt8} {x : Ins} {k : Kn} (hx : InsOK b x) (hb : b.length ≤ 4000) (hk : k.st.length ≤ 100) (hc : k.cl.length = byteAt b 2) (h1 : Tys1 k.st) (h2 : Tys k.cl) (w : World) :
    Calls Tryz.prog 46 #[S b, .int .i64 (x.pl : Nat), knV k] w fun e w' => DoesAns (doesK x.op x.n.toNat k) e ∧ Below w.heap.size w w' := by
  have hN := num_ok hx
  have hc5 : k.cl.length ≤ 255 := by have := byte_lt b 2; omega
  have hop0 := ins_op hx
  have hf := hx.fits
  have hsz : 0 < sizeOp x.op := Nat.pos_of_ne_zero hx.size
  have ha : x.pl < (ByteArray.mk b.toArray).size := by show x.pl < b.length; omega
  have hop : ((ByteArray.mk b.toArray)[x.pl]).toNat = x.op := (ba_at b x.pl ha).trans hop0
  have h2n : sizeOp x.op = 2 → ∃ ha1 : x.pl + 1 < (ByteArray.mk b.toArray).size, ((ByteArray.mk b.toArray)[x.pl + 1]).toNat = x.n.toNat := fun hs => by
    have hn := ins_two hx hs
    refine ⟨by show x.pl + 1 < b.length; omega, ?_⟩
    rw [ba_at b (x.pl + 1) (by show x.pl + 1 < b.length; omega), hn]; rfl
  have hbd : sizeOp x.op = 2 → (x.n.toNat : Int) ≤ boundOp x.op (byteAt b 2) := fun hs => by
    obtain ⟨q1, q2, _⟩ := hN.two hs
    omega
  obtain ⟨o1, o2⟩ := hN.op
  have e : x.op = 1 ∨ x.op = 2 ∨ x.op = 3 ∨ x.op = 4 ∨ x.op = 5 ∨ x.op = 6 ∨ x.op = 7 ∨ x.op = 8 ∨ x.op = 9 ∨ x.op = 10 ∨ x.op = 11 ∨ x.op = 12 ∨ x.op = 13 ∨ x.op = 14 ∨ x.op = 15 ∨ x.op = 16 ∨ x.op = 17 ∨ x.op = 18 := by omega
  rcases e with e | e | e | e | e | e | e | e | e | e | e | e | e | e | e | e | e | e
  · rw [e] at hop ⊢; exact does1 hb hk hc5 h1 h2 ha hop w
  · rw [e] at hop ⊢; exact does2 hb hk hc5 h1 h2 ha hop w
  · rw [e] at hop ⊢; exact does3 hb hk hc5 h1 h2 ha hop w
  · rw [e] at hop h2n hbd ⊢
    obtain ⟨ha1, hn⟩ := h2n rfl
    have hbd := hbd rfl
    have : boundOp 4 (byteAt b 2) = 8 := rfl
    exact does4 hb hk hc5 h1 h2 ha hop ha1 hn (by omega) w
  · rw [e] at hop h2n hbd ⊢
    obtain ⟨ha1, hn⟩ := h2n rfl
    have hbd := hbd rfl
    have : boundOp 5 (byteAt b 2) = (byteAt b 2 : Int) - 1 := rfl
    exact does5 hb hk hc5 h1 h2 ha hop ha1 hn (by omega) w
  · rw [e] at hop h2n hbd ⊢
    obtain ⟨ha1, hn⟩ := h2n rfl
    have hbd := hbd rfl
    have : boundOp 6 (byteAt b 2) = (byteAt b 2 : Int) - 1 := rfl
    exact does6 hb hk hc5 h1 h2 ha hop ha1 hn (by omega) w
  · rw [e] at hop ⊢; exact does7 hb hk hc5 h1 h2 ha hop w
  · rw [e] at hop ⊢; exact does8 hb hk hc5 h1 h2 ha hop w
  · rw [e] at hop ⊢; exact does9 hb hk hc5 h1 h2 ha hop w
  · rw [e] at hop ⊢; exact does10 hb hk hc5 h1 h2 ha hop w
  · rw [e] at hop ⊢; exact does11 hb hk hc5 h1 h2 ha hop w
  · rw [e] at hop ⊢; exact does12 hb hk hc5 h1 h2 ha hop w
  · rw [e] at hop ⊢; exact does13 hb hk hc5 h1 h2 ha hop w
  · rw [e] at hop ⊢; exact does14 hb hk hc5 h1 h2 ha hop w
  · rw [e] at hop ⊢; exact does15 hb hk hc5 h1 h2 ha hop w
  · rw [e] at hop ⊢; exact does16 hb hk hc5 h1 h2 ha hop w
  · rw [e] at hop ⊢; exact does17 hb hk hc5 h1 h2 ha hop w
  · rw [e] at hop ⊢; exact does18 hb hk hc5 h1 h2 ha hop w
end Go.Proofs.YtfkdailfcmnjlaaGreatDoor

namespace Go.Proofs.YtfkdailfcmnjlaaGreatDoor
open Go Go.RowKit
set_option maxRecDepth 100000
attribute [local go_sem ↓] Go.wp_at_zero Go.wp_at_succ

theorem below_three (w : World) (o1 o2 o3 : Obj) : Below w.heap.size w (((w.alloc o1).alloc o2).alloc o3) := (((Below.refl _ _).alloc (Nat.le_refl _) _).alloc (by simp) _).alloc (by simp; omega) _
set_option maxHeartbeats 4000000 in
theorem meets_new (x y : List UInt8) (k : Kn) (w : World) : Calls Tryz.prog 48 #[.agg #[.bool false, S x, S y], knV k] w fun e w' => e = .returned (.tuple #[knV k, .bool true]) ∧ Below w.heap.size w w' := by
  unfold knV
  have HB : Hid (∀ o1 o2 o3, Below w.heap.size w (((w.alloc o1).alloc o2).alloc o3)) := fun o1 o2 o3 => below_three w o1 o2 o3
  go_enter Tryz.func48, Tryz.ntmps48
  go_wp2
  refine bodyPost_ret (v := .tuple #[.agg #[.bool true, S (stS k.st), S (clS k.cl)], .bool true]) (by simp [results, Tryz.results48, go_sem]) rfl ?_
  exact ⟨rfl, HB.out _ _ _⟩
def metB (x y : List UInt8) (i : Nat) : List UInt8 := (List.range i).map fun j => if x.getD j 0 = y.getD j 0 then x.getD j 0 else 45
theorem metB_succ (x y : List UInt8) (i : Nat) : metB x y (i + 1) = metB x y i ++ [if x.getD i 0 = y.getD i 0 then x.getD i 0 else 45] := by simp [metB, List.range_succ]
theorem metB_len (x y : List UInt8) (i : Nat) : (metB x y i).length = i := by simp [metB]
theorem met_cl {a b : List Nat} (ha : Tys a) (hb : Tys b) (hl : a.length = b.length) : metB (clS a) (clS b) a.length = clS (meetC a b) := by
  apply List.ext_getElem?
  intro i
  by_cases hi : i < a.length
  · have hib : i < b.length := by omega
    rw [metB, List.getElem?_map, List.getElem?_range hi, Option.map_some, cl_getD a hi, cl_getD b hib]
    have ta := ha.getD i
    have tb := hb.getD i
    simp only [clS, meetC, List.getElem?_map, List.getElem?_zipWith, List.getElem?_eq_getElem hi, List.getElem?_eq_getElem hib, Option.map_some]
    rw [List.getD_eq_getElem?_getD, List.getElem?_eq_getElem hi] at ta ⊢
    rw [List.getD_eq_getElem?_getD, List.getElem?_eq_getElem hib] at tb ⊢
    simp only [Option.getD_some] at *
    by_cases he : a[i] = b[i]
    · rw [he]; simp
    · rw [if_neg (fun h => he (tyC_inj ta tb h))]; simp [he, tyC]
  · rw [List.getElem?_eq_none (by rw [metB_len]; omega), List.getElem?_eq_none (by rw [clS_len]; simp [meetC]; omega)]
set_option maxHeartbeats 4000000 in
theorem meets_gen (A cA B cB : List UInt8) (hl : cA.length = cB.length) (hc : cA.length ≤ 255) (w : World) : Calls Tryz.prog 48 #[.agg #[.bool true, S A, S cA], .agg #[.bool true, S B, S cB]] w fun e w' => e = .returned (.tuple #[.agg #[.bool true, S A, S (metB cA cB cA.length)], .bool (decide (A = B))]) ∧ Below w.heap.size w w' := by
  obtain ⟨w2, hw2⟩ : ∃ w2, ((w.alloc (.cells #[.bool true, S A, S cA] 124)).alloc (.cells #[.bool true, S B, S cB] 124)).alloc (.cells #[.bool false, .string ⟨#[]⟩, .string ⟨#[]⟩] 124) = w2 := ⟨_, rfl⟩
  have hb2 : Below w.heap.size w w2 := by rw [← hw2]; exact below_three w _ _ _
  have k1 : w2.heap[w.heap.size]? = some (.cells #[.bool true, S A, S cA] 124 (0, 0)) := by
    rw [← hw2]; exact (Below.heap_alloc _ _ _ (by simp; omega)).trans ((Below.heap_alloc _ _ _ (by simp)).trans (heap_alloc_new w _))
  have k2 : w2.heap[w.heap.size + 1]? = some (.cells #[.bool true, S B, S cB] 124 (0, 0)) := by
    rw [← hw2]
    have h := heap_alloc_new (w.alloc (.cells #[.bool true, S A, S cA] 124)) (.cells #[.bool true, S B, S cB] 124)
    rw [World.size_alloc] at h
    exact (Below.heap_alloc _ _ _ (by simp)).trans h
  have k3 : w2.heap[w.heap.size + 1 + 1]? = some (.cells #[.bool false, .string ⟨#[]⟩, .string ⟨#[]⟩] 124 (0, 0)) := by
    rw [← hw2]
    have h := heap_alloc_new ((w.alloc (.cells #[.bool true, S A, S cA] 124)).alloc (.cells #[.bool true, S B, S cB] 124)) (.cells #[.bool false, .string ⟨#[]⟩, .string ⟨#[]⟩] 124)
    rw [World.size_alloc, World.size_alloc] at h
    exact h
  have HW : Hid _ := hw2
  have HK : Hid (∀ W, Below w2.heap.size w2 W → W.heap[w.heap.size]? = some (.cells #[.bool true, S A, S cA] 124 (0, 0)) ∧ W.heap[w.heap.size + 1]? = some (.cells #[.bool true, S B, S cB] 124 (0, 0)) ∧ W.heap[w.heap.size + 1 + 1]? = some (.cells #[.bool false, .string ⟨#[]⟩, .string ⟨#[]⟩] 124 (0, 0)) ∧ Below w.heap.size w W) := fun W h => ⟨(h.block _ (lt_of_get k1)).trans k1, (h.block _ (lt_of_get k2)).trans k2, (h.block _ (lt_of_get k3)).trans k3, hb2.trans (h.mono hb2.size)⟩
  clear hw2 hb2 k1 k2 k3
  go_enter Tryz.func48, Tryz.ntmps48
  go_wp2_with fail
  rw [HW.out]
  go_loopw [6, 7] (fun sv av wr => ∃ i : Nat, i ≤ cA.length ∧ av = .int .i64 i ∧ sv = S (metB cA cB i) ∧ Hid (Below w2.heap.size w2 wr)) (fun _ av _ => cA.length - (intOf av).toNat)
  case atStart => exact ⟨0, by omega, rfl, rfl, Below.refl _ _⟩
  case round =>
    obtain ⟨i, hi, rfl, rfl, HI⟩ := hrel
    obtain ⟨b1, b2, b3, b4⟩ := HK.out _ HI.out
    have c2 : wr.cell? ⟨w.heap.size, 2, none⟩ = some (S cA) := cell_of_row wr _ 2 _ _ _ b1
    have d2 : wr.cell? ⟨w.heap.size + 1, 2, none⟩ = some (S cB) := cell_of_row wr _ 2 _ _ _ b2
    by_cases hlt : i < cA.length
    · have hsa : i < (ByteArray.mk cA.toArray).size := hlt
      have hsb : i < (ByteArray.mk cB.toArray).size := by show i < cB.length; omega
      have pa := ba_at cA i hsa
      have pb := ba_at cB i hsb
      have HS := metB_succ cA cB i
      have HI2 : Hid (Below w2.heap.size w2 wr.drew) := HI.out.drew
      have hsl : (0 : Int) ≤ (i : Int) ∧ (i : Int) ≤ (i : Int) + 1 ∧ (i : Int) + 1 ≤ (cA.length : Int) := by omega
      have hex : ({ data := cA.toArray } : ByteArray).extract i (i + 1) = ⟨(cut cA i (i + 1)).toArray⟩ := cut_ex _ _ _
      have hcu : cut cA i (i + 1) = [cA.getD i 0] := by
        unfold cut
        apply List.ext_getElem?
        intro j
        rcases j with _ | j
        · simp [List.getElem?_drop, List.getD_eq_getElem?_getD, List.getElem?_eq_getElem hlt]
        · simp; omega
      rw [hcu] at hex
      have hml := metB_len cA cB i
      generalize hx : cA.getD i 0 = x at *
      generalize hy : cB.getD i 0 = y at *
      generalize metB cA cB i = m at *
      clear HK b1 b2 b3 b4 HW
      by_cases hxy : x = y
      · subst hxy
        rw [if_pos rfl] at HS
        have HS2 : Hid (S (metB cA cB (i + 1)) = .string (BA m ++ BA [x])) := by show _ = _; rw [HS, app_ba]
        clear HS
        go_wp2_with fail
        go_region
        all_goals go_wp2
        all_goals exact ⟨⟨i + 1, by omega, by go_num, HS2.out.symm, HI2.out⟩, by simp [intOf]; omega⟩
      · rw [if_neg hxy] at HS
        have HS2 : Hid (S (metB cA cB (i + 1)) = .string (BA m ++ BA [45])) := by show _ = _; rw [HS, app_ba]
        have hne : ¬ (x.toNat = y.toNat) := fun h => hxy (UInt8.toNat_inj.1 h)
        have hne2 : ((x.toNat : Int) == (y.toNat : Int)) = false := by simp; omega
        have hne3 : ¬ ((x.toNat : Int) = (y.toNat : Int)) := by omega
        clear HS
        go_wp2_with fail
        go_region
        all_goals go_wp2
        all_goals exact ⟨⟨i + 1, by omega, by go_num, HS2.out.symm, HI2.out⟩, by simp [intOf]; omega⟩
    · obtain rfl : i = cA.length := by omega
      have c1 : wr.cell? ⟨w.heap.size, 1, none⟩ = some (S A) := cell_of_row wr _ 1 _ _ _ b1
      have d1 : wr.cell? ⟨w.heap.size + 1, 1, none⟩ = some (S B) := cell_of_row wr _ 1 _ _ _ b2
      have r0 : wr.cell? ⟨w.heap.size + 1 + 1, 0, none⟩ = some (.bool false) := cell_of_row wr _ 0 _ _ _ b3
      have r1 : wr.cell? ⟨w.heap.size + 1 + 1, 1, none⟩ = some (.string ⟨#[]⟩) := cell_of_row wr _ 1 _ _ _ b3
      have r2 : wr.cell? ⟨w.heap.size + 1 + 1, 2, none⟩ = some (.string ⟨#[]⟩) := cell_of_row wr _ 2 _ _ _ b3
      have gf : ∀ o, wr.frozen? ⟨w.heap.size + 1 + 1, o, none⟩ = false := fun o => by simp [World.frozen?, b3]
      have g0 := gf 0
      have g1 := gf 1
      have g2 := gf 2
      have HB : Hid (∀ v0 v1 v2, Below w.heap.size w (((wr.setCell ⟨w.heap.size + 1 + 1, 0, none⟩ v0).setCell ⟨w.heap.size + 1 + 1, 1, none⟩ v1).setCell ⟨w.heap.size + 1 + 1, 2, none⟩ v2)) := fun v0 v1 v2 => ((b4.setCell (by simp only []; omega) _).setCell (by simp only []; omega) _).setCell (by simp only []; omega) _
      generalize hm : metB cA cB cA.length = m at *
      have HM : Hid (metB cA cB cA.length = m) := hm
      have HL : Hid (cA.length = cB.length) := hl
      clear HK b1 b2 b3 b4 HW gf HI hm
      by_cases hAB : A = B
      · subst hAB
        go_wp2_with fail
        go_region
        all_goals go_wp2
        all_goals refine bodyPost_ret (v := .tuple #[.agg #[.bool true, S A, S m], .bool true]) (by simp [results, Tryz.results48, go_sem, cell_set_same, cell_set_off, some_set, r0, r1, r2]) rfl ?_
        all_goals exact ⟨by rw [← HL.out, HM.out]; try simp, (HB.out _ _ _).drew⟩
      · have hne : ¬ ((⟨A.toArray⟩ : ByteArray) = ⟨B.toArray⟩) := fun h => hAB (by injection h with h; simpa using congrArg Array.toList h)
        go_wp2_with fail
        go_region
        all_goals go_wp2
        all_goals refine bodyPost_ret (v := .tuple #[.agg #[.bool true, S A, S m], .bool false]) (by simp [results, Tryz.results48, go_sem, cell_set_same, cell_set_off, some_set, r0, r1, r2, hAB]) rfl ?_
        all_goals exact ⟨by rw [HM.out]; simp [hAB], (HB.out _ _ _).drew⟩
theorem meets_old {a k : Kn} (h1 : Tys1 a.st) (h2 : Tys a.cl) (h3 : Tys1 k.st) (h4 : Tys k.cl) (hl : a.cl.length = k.cl.length) (hc : a.cl.length ≤ 255) (w : World) : Calls Tryz.prog 48 #[knV a, knV k] w fun e w' => e = .returned (.tuple #[knV ⟨a.st, meetC a.cl k.cl⟩, .bool (decide (a.st = k.st))]) ∧ Below w.heap.size w w' := by
  have h := meets_gen (stS a.st) (clS a.cl) (stS k.st) (clS k.cl) (by rw [clS_len, clS_len]; exact hl) (by rw [clS_len]; exact hc) w
  refine h.mono fun e w' ⟨he, hb⟩ => ⟨?_, hb⟩
  rw [he, clS_len, met_cl h2 h4 hl]
  have e : decide (stS a.st = stS k.st) = decide (a.st = k.st) := by
    by_cases hs : a.st = k.st
    · rw [hs]; simp
    · rw [decide_eq_false hs, decide_eq_false (fun h => hs (stS_inj h1 h3 h))]
  rw [e]; rfl
end Go.Proofs.YtfkdailfcmnjlaaGreatDoor

namespace Go.Proofs.YtfkdailfcmnjlaaGreatDoor
open Go Go.RowKit
set_option maxRecDepth 100000
attribute [local go_sem ↓] Go.wp_at_zero Go.wp_at_succ

def leadsI (x : Ins) : List Int := (leadsP x).map fun (p : Nat) => (p : Int)
theorem ir_newj {w : World} {l : List Int} {n cap : Nat} (hn : n = l.length) (hc : cap = l.length) (h0 : 0 < l.length) (hl : l.length ≤ 10) : IR (w.alloc (.cells (l.map (Value.int .i64)).toArray 3)) 3 (.slice (some ⟨w.heap.size, 0, none⟩) n cap) l := by
  subst hn; subst hc
  refine ⟨by simp, .inr ⟨w.heap.size, l.length, (l.map (Value.int .i64)).toArray, by simp, ?_, heap_alloc_new w _, ?_, ?_, ?_, ?_⟩⟩
  · exact Nat.zero_le _
  · exact Nat.le_refl _
  · unfold maxLen; omega
  · simp
  · rw [Nat.mul_one, List.take_of_length_le (by simp)]
set_option maxHeartbeats 4000000 in
theorem leads_any {b : List UInt8} {x : Ins} (hx : InsOK b x) (hb : b.length ≤ 4000) (w : World) :
    Calls Tryz.prog 47 #[S b, .int .i64 (x.pl : Nat)] w fun e w' => (∃ v, e = .returned v ∧ IR w' 3 v (leadsI x)) ∧ Below w.heap.size w w' := by
  have hop0 := ins_op hx
  have hf := hx.fits
  have hsz : 0 < sizeOp x.op := Nat.pos_of_ne_zero hx.size
  have hN := num_ok hx
  obtain ⟨o1, o2⟩ := hN.op
  have ha : x.pl < (ByteArray.mk b.toArray).size := by show x.pl < b.length; omega
  have hop : ((ByteArray.mk b.toArray)[x.pl]).toNat = x.op := (ba_at b x.pl ha).trans hop0
  have W1 := fun w => size_any x.op (by omega) w
  have HB : Hid (∀ o, Below w.heap.size w (w.alloc o)) := fun o => (Below.refl _ _).alloc (Nat.le_refl _) _
  have hpl : x.pl < b.length := by omega
  have hq : (0 : Int) ≤ (x.pl : Int) ∧ (x.pl : Int) < (b.length : Int) := by omega
  by_cases h15 : x.op = 15
  · have h3 : sizeOp x.op = 3 := by rw [h15]; rfl
    have hn := ins_three hx h3
    have ha1 : x.pl + 1 < (ByteArray.mk b.toArray).size := by show x.pl + 1 < b.length; omega
    have ha2 : x.pl + 2 < (ByteArray.mk b.toArray).size := by show x.pl + 2 < b.length; omega
    have b1 : ((ByteArray.mk b.toArray)[x.pl + 1]).toNat = byteAt b (x.pl + 1) := ba_at b _ ha1
    have b2 : ((ByteArray.mk b.toArray)[x.pl + 2]).toNat = byteAt b (x.pl + 2) := ba_at b _ ha2
    have l1 := byte_lt b (x.pl + 1)
    have l2 := byte_lt b (x.pl + 2)
    have q1 : (0 : Int) ≤ (x.pl : Int) + 1 ∧ (x.pl : Int) + 1 < (b.length : Int) := by omega
    have q2 : (0 : Int) ≤ (x.pl : Int) + 2 ∧ (x.pl : Int) + 2 < (b.length : Int) := by omega
    have HL : Hid (leadsI x = [((x.pl : Int) + 3), ((x.pl : Int) + 3 + (byteAt b (x.pl + 1) : Int) * 256 + (byteAt b (x.pl + 2) : Int))]) := by
      show leadsI x = _
      unfold leadsI leadsP
      rw [if_pos h15, hn]
      simp; omega
    rw [h3] at W1
    rw [h15] at hop W1
    generalize byteAt b (x.pl + 1) = u1 at *
    generalize byteAt b (x.pl + 2) = u2 at *
    generalize x.pl = pl at *
    clear hN hx hn hop0 o1 o2 hsz hf h15 h3
    go_enter Tryz.func47, Tryz.ntmps47
    go_wp2_with (
      go_at_call 49
      refine (W1 _).mono ?_
      rintro e w' ⟨rfl, rfl⟩)
    go_region
    go_wp2
    refine bodyPost_ret (v := .slice (some ⟨w'.heap.size, 0, none⟩) 2 2) (by simp [results, Tryz.results47, go_sem]) rfl ?_
    refine ⟨⟨_, rfl, ?_⟩, (HB.out _).drew⟩
    rw [HL.out]
    exact ir_newj (l := [((pl : Int) + 3), ((pl : Int) + 3 + (u1 : Int) * 256 + (u2 : Int))]) rfl rfl (by simp) (by simp)
  by_cases h16 : x.op = 16
  · have h3 : sizeOp x.op = 3 := by rw [h16]; rfl
    have hn := ins_three hx h3
    have ha1 : x.pl + 1 < (ByteArray.mk b.toArray).size := by show x.pl + 1 < b.length; omega
    have ha2 : x.pl + 2 < (ByteArray.mk b.toArray).size := by show x.pl + 2 < b.length; omega
    have b1 : ((ByteArray.mk b.toArray)[x.pl + 1]).toNat = byteAt b (x.pl + 1) := ba_at b _ ha1
    have b2 : ((ByteArray.mk b.toArray)[x.pl + 2]).toNat = byteAt b (x.pl + 2) := ba_at b _ ha2
    have l1 := byte_lt b (x.pl + 1)
    have l2 := byte_lt b (x.pl + 2)
    have q1 : (0 : Int) ≤ (x.pl : Int) + 1 ∧ (x.pl : Int) + 1 < (b.length : Int) := by omega
    have q2 : (0 : Int) ≤ (x.pl : Int) + 2 ∧ (x.pl : Int) + 2 < (b.length : Int) := by omega
    have HL : Hid (leadsI x = [((x.pl : Int) + 3 + (byteAt b (x.pl + 1) : Int) * 256 + (byteAt b (x.pl + 2) : Int))]) := by
      show leadsI x = _
      unfold leadsI leadsP
      rw [if_neg h15, if_pos h16, hn]
      simp; omega
    rw [h3] at W1
    rw [h16] at hop W1
    generalize byteAt b (x.pl + 1) = u1 at *
    generalize byteAt b (x.pl + 2) = u2 at *
    generalize x.pl = pl at *
    clear hN hx hn hop0 o1 o2 hsz hf h15 h16 h3
    go_enter Tryz.func47, Tryz.ntmps47
    go_wp2_with (
      go_at_call 49
      refine (W1 _).mono ?_
      rintro e w' ⟨rfl, rfl⟩)
    go_region
    go_wp2
    refine bodyPost_ret (v := .slice (some ⟨w'.heap.size, 0, none⟩) 1 1) (by simp [results, Tryz.results47, go_sem]) rfl ?_
    refine ⟨⟨_, rfl, ?_⟩, (HB.out _).drew⟩
    rw [HL.out]
    exact ir_newj (l := [((pl : Int) + 3 + (u1 : Int) * 256 + (u2 : Int))]) rfl rfl (by simp) (by simp)
  by_cases h17 : x.op = 17 ∨ x.op = 18
  · have HL : Hid (leadsI x = []) := by
      show leadsI x = _
      unfold leadsI leadsP
      rw [if_neg h15, if_neg h16, if_pos h17]; rfl
    have h2 : sizeOp x.op = 2 := by rcases h17 with e | e <;> rw [e] <;> rfl
    rw [h2] at W1
    generalize x.op = op at *
    generalize x.pl = pl at *
    clear hN hx hop0 o1 o2 hsz hf h15 h16 h2
    rcases h17 with rfl | rfl
    · go_enter Tryz.func47, Tryz.ntmps47
      go_wp2_with (
        go_at_call 49
        refine (W1 _).mono ?_
        rintro e w' ⟨rfl, rfl⟩)
      refine bodyPost_ret (v := .slice none 0 0) (by simp [results, Tryz.results47, go_sem]) rfl ?_
      exact ⟨⟨_, rfl, by rw [HL.out]; exact IR.nil _ _⟩, Below.refl _ _⟩
    · go_enter Tryz.func47, Tryz.ntmps47
      go_wp2_with (
        go_at_call 49
        refine (W1 _).mono ?_
        rintro e w' ⟨rfl, rfl⟩)
      refine bodyPost_ret (v := .slice none 0 0) (by simp [results, Tryz.results47, go_sem]) rfl ?_
      exact ⟨⟨_, rfl, by rw [HL.out]; exact IR.nil _ _⟩, Below.refl _ _⟩
  · have HL : Hid (leadsI x = [(x.pl : Int) + (sizeOp x.op : Int)]) := by
      show leadsI x = _
      unfold leadsI leadsP
      rw [if_neg h15, if_neg h16, if_neg h17]; simp
    have h9 := size_le x.op
    have n15 : ((x.op : Int) == 15) = false := by simp; omega
    have n16 : ((x.op : Int) == 16) = false := by simp; omega
    have n17 : ((x.op : Int) == 17) = false := by simp; omega
    have n18 : ((x.op : Int) == 18) = false := by simp; omega
    generalize sizeOp x.op = sz at *
    generalize x.op = op at *
    generalize x.pl = pl at *
    clear hN hx hop0 o1 o2 hsz hf h15 h16 h17
    go_enter Tryz.func47, Tryz.ntmps47
    go_wp2_with (
      go_at_call 49
      refine (W1 _).mono ?_
      rintro e w' ⟨rfl, rfl⟩)
    refine bodyPost_ret (v := .slice (some ⟨w'.heap.size, 0, none⟩) 1 1) (by simp [results, Tryz.results47, go_sem]) rfl ?_
    refine ⟨⟨_, rfl, ?_⟩, HB.out _⟩
    rw [HL.out]
    exact ir_newj (l := [((pl : Int) + (sz : Int))]) rfl rfl (by simp) (by simp)
end Go.Proofs.YtfkdailfcmnjlaaGreatDoor
