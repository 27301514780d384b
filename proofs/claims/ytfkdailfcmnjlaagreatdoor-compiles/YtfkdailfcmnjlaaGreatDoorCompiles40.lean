/-
  The program looks a code through. The program's reading of bytes: how many follow, which number they are. The program's reading of bytes: may an instruction be one? The program finds the instruction that begins at a byte.
-/
import Derived.Test.YtfkdailfcmnjlaaGreatDoorCompiles01
import Derived.Test.YtfkdailfcmnjlaaGreatDoorCompiles02
import Derived.Test.YtfkdailfcmnjlaaGreatDoorCompiles04
import Derived.Test.YtfkdailfcmnjlaaGreatDoorCompiles05
import Derived.Test.YtfkdailfcmnjlaaGreatDoorCompiles06
import Derived.Test.YtfkdailfcmnjlaaGreatDoorCompiles07
import Derived.Test.YtfkdailfcmnjlaaGreatDoorCompiles08
import Derived.Test.YtfkdailfcmnjlaaGreatDoorCompiles09
import Derived.Test.YtfkdailfcmnjlaaGreatDoorCompiles10
import Derived.Test.YtfkdailfcmnjlaaGreatDoorCompiles11
import Derived.Test.YtfkdailfcmnjlaaGreatDoorCompiles12
import Derived.Test.YtfkdailfcmnjlaaGreatDoorCompiles13
import Derived.Test.YtfkdailfcmnjlaaGreatDoorCompiles14
import Derived.Test.YtfkdailfcmnjlaaGreatDoorCompiles15
import Derived.Test.YtfkdailfcmnjlaaGreatDoorCompiles16
import Derived.Test.YtfkdailfcmnjlaaGreatDoorCompiles17
import Derived.Test.YtfkdailfcmnjlaaGreatDoorCompiles18
import Derived.Test.YtfkdailfcmnjlaaGreatDoorCompiles19
import Derived.Test.YtfkdailfcmnjlaaGreatDoorCompiles20
import Derived.Test.YtfkdailfcmnjlaaGreatDoorCompiles21
import Derived.Test.YtfkdailfcmnjlaaGreatDoorCompiles22
import Derived.Test.YtfkdailfcmnjlaaGreatDoorCompiles23
import Derived.Test.YtfkdailfcmnjlaaGreatDoorCompiles24
import Derived.Test.YtfkdailfcmnjlaaGreatDoorCompiles28
import Derived.Test.YtfkdailfcmnjlaaGreatDoorCompiles29
import Derived.Test.YtfkdailfcmnjlaaGreatDoorCompiles30
import Derived.Test.YtfkdailfcmnjlaaGreatDoorCompiles31
import Derived.Test.YtfkdailfcmnjlaaGreatDoorCompiles32
import Derived.Test.YtfkdailfcmnjlaaGreatDoorCompiles34
import Derived.Test.YtfkdailfcmnjlaaGreatDoorCompiles35
import Derived.Test.YtfkdailfcmnjlaaGreatDoorCompiles37
import Derived.Test.YtfkdailfcmnjlaaGreatDoorCompiles38
import Derived.Test.YtfkdailfcmnjlaaGreatDoorCompiles39
import Derived.Test.YtfkdailfcmnjlaaGreatDoorLays
import Derived.Test.YtfkdailfcmnjlaaGreatDoorLays2
import Derived.WalkKit
import Derived.Deep.QuietTactic
import Derived.BigQuiet
import Derived.WalkSpells
import GoSem.Op.String
import Derived.Deep.AppendLies
import Derived.Deep.RegionHeld3
import Derived.Deep.DrawnRows
import Derived.Deep.RegionHeldLaw
import Derived.Deep.RegionLaw
import Derived.Lib.ParseIntBCases
import Derived.Deep.OwnRows
import Derived.Lib.LaidTab
import Derived.Lib.AppendIntMem
import Derived.Shelf.Strings.Builder1
import Derived.Laws.CopyOwn
import Derived.Deep.DeepCutAuto
import Derived.WalkSmall
import Derived.Lib.AppendZerosOnto
set_option linter.unusedVariables false
set_option linter.unusedSimpArgs false
namespace Go.Proofs.YtfkdailfcmnjlaaGreatDoor
open Go Go.RowKit
set_option maxRecDepth 100000
attribute [local go_sem ↓] Go.wp_at_zero Go.wp_at_succ

theorem info_ptr : (Tryz.prog.info? 285).map (fun i => (i.zero, i.size, i.bytes)) = some (some (.pointer none), 1, 8) := by kernel_rfl
/-- Between the rounds. -/
def SndI (w wr : World) (cells : Nat) (ins : List Ins) (depth i : Nat) (r : Bool) : Prop :=
  ∃ O come, ComeAt wr w.heap.size w.heap.size i O come ∧ come.length = ins.length ∧ Below w.heap.size w wr ∧ r = flowK ins depth (ins.drop i) i come ∧ ComeTy cells come
theorem snd_start {w : World} {cells n : Nat} (h0 : 0 < n) :
    ComeAt ((w.alloc (.cells ((madeCells #[.pointer none] n).setIfInBounds 0 (.pointer (some ⟨w.heap.size + 1, 0, none⟩))) 285)).alloc (.cells #[.slice none 0 0, .slice none 0 0] 289)) w.heap.size w.heap.size 0 (fun b => if b = w.heap.size + 1 then 1 else 0) (come0 cells n) := by
  have e1 : (w.alloc (.cells ((madeCells #[.pointer none] n).setIfInBounds 0 (.pointer (some ⟨w.heap.size + 1, 0, none⟩))) 285)).heap.size = w.heap.size + 1 := World.size_alloc _ _
  have hb := (Below.heap_alloc (w.alloc (.cells ((madeCells #[.pointer none] n).setIfInBounds 0 (.pointer (some ⟨w.heap.size + 1, 0, none⟩))) 285)) (.cells #[.slice none 0 0, .slice none 0 0] 289) w.heap.size (by omega)).trans (heap_alloc_new w _)
  have hs := heap_alloc_new (w.alloc (.cells ((madeCells #[.pointer none] n).setIfInBounds 0 (.pointer (some ⟨w.heap.size + 1, 0, none⟩))) 285)) (.cells #[.slice none 0 0, .slice none 0 0] 289)
  rw [e1] at hs
  have hlen : (come0 cells n).length = n := come0_len cells n h0
  have hsz : (madeCells #[Value.pointer none] n).size = n := size_madeCells _ _
  have hcell : ∀ j, j < n → ((w.alloc (.cells ((madeCells #[.pointer none] n).setIfInBounds 0 (.pointer (some ⟨w.heap.size + 1, 0, none⟩))) 285)).alloc (.cells #[.slice none 0 0, .slice none 0 0] 289)).cell? ⟨w.heap.size, j, none⟩ = if j = 0 then some (.pointer (some ⟨w.heap.size + 1, 0, none⟩)) else some (.pointer none) := fun j hj => by
    rw [cell_of_row _ _ j _ _ _ hb]
    by_cases e : j = 0
    · subst e
      rw [if_pos rfl, Array.getElem?_setIfInBounds, if_pos rfl, if_pos (by omega)]
    · rw [if_neg e, Array.getElem?_setIfInBounds_ne (by omega)]
      unfold madeCells
      simp [hj, Nat.mod_one]
  refine ⟨⟨_, hb, by rw [Array.size_setIfInBounds, hsz, hlen]⟩, fun j _ hj hn => ?_, fun j _ hj k hk => ?_, by simp, fun b hb => ?_, Nat.le_refl _, by rw [World.size_alloc, e1]; omega⟩
  · rw [hlen] at hj
    rw [hcell j hj, if_neg]
    intro e
    subst e
    simp [come0] at hn
  · rw [hlen] at hj
    cases j with
    | zero =>
      simp [come0] at hk
      subst hk
      refine ⟨w.heap.size + 1, .slice none 0 0, .slice none 0 0, [], [], by rw [hcell 0 hj]; rfl, ⟨hs, IR.nil _ _, IR.nil _ _, fun b hb => by simp [Value.ownBlock] at hb⟩, ⟨rfl, by simp, fun i => ?_⟩, fun b hb => ?_⟩
      · rw [List.getD_eq_getElem?_getD, List.getD_eq_getElem?_getD, List.getElem?_replicate]
        split <;> rfl
      · rcases hb with rfl | hb | hb
        · exact if_pos rfl
        · simp [Value.ownBlock] at hb
        · simp [Value.ownBlock] at hb
    | succ j =>
      unfold come0 at hk
      rw [List.getD_cons_succ, List.getD_eq_getElem?_getD, List.getElem?_replicate] at hk
      split at hk <;> cases hk
  · by_cases e : b = w.heap.size + 1
    · omega
    · exact absurd (if_neg e) hb
set_option maxHeartbeats 8000000 in
theorem sound_any {b : List UInt8} {ins : List Ins} {cp gi cap depth : Nat} {w : World} (hE : Ef w) (h : CodeOK b ins) (hm : CodeAt w cp gi cap (byteAt b 2) depth ins) (h0 : 0 < ins.length) (hn : ins.length ≤ 4000) (hd : depth ≤ 24) :
    Calls Tryz.prog 143 #[.pointer (some ⟨cp, 0, none⟩)] w fun e w' => e = .returned (.bool (flowK ins depth ins 0 (come0 (byteAt b 2) ins.length))) ∧ Below w.heap.size w w' := by
  have hmk := run_make_row' (P := Tryz.prog) 284 285 (.pointer none) 8 Tryz.underlying284 info_ptr rfl .i64 .i64 ins.length (by omega) (by omega)
  have p0 : w.cell? ⟨cp, 0, none⟩ = some (.int .i64 (byteAt b 2 : Nat)) := by rw [cell_of_row w cp 0 _ _ _ hm.blk]; rfl
  have p1 : w.cell? ⟨cp, 1, none⟩ = some (.slice (some ⟨gi, 0, none⟩) ins.length cap) := by rw [cell_of_row w cp 1 _ _ _ hm.blk]; rfl
  have p2 : w.cell? ⟨cp, 2, none⟩ = some (.int .i64 depth) := by rw [cell_of_row w cp 2 _ _ _ hm.blk]; rfl
  have hlt := lt_of_get hm.blk
  have p1' : ∀ o o', ((w.alloc o).alloc o').cell? ⟨cp, 1, none⟩ = some (.slice (some ⟨gi, 0, none⟩) ins.length cap) := fun o o' => by
    have hb : Below w.heap.size w ((w.alloc o).alloc o') := ((Below.refl _ _).alloc (Nat.le_refl _) _).alloc (by simp) _
    rw [hb.cell (p := ⟨cp, 1, none⟩) hlt]; exact p1
  have hmc : (madeCells #[.pointer none] ins.length)[0]? = some (.pointer none) := by unfold madeCells; simp [h0]
  have HM : Hid _ := hm
  have H : Hid _ := h
  have HEf : Hid _ := hE
  clear hm h hE
  generalize hR : flowK ins depth ins 0 (come0 (byteAt b 2) ins.length) = R
  have HI0 : Hid (SndI w ((w.alloc (.cells ((madeCells #[.pointer none] ins.length).setIfInBounds 0 (.pointer (some ⟨w.heap.size + 1, 0, none⟩))) 285)).alloc (.cells #[.slice none 0 0, .slice none 0 0] 289)) (byteAt b 2) ins depth 0 R) :=
    ⟨_, _, snd_start h0, come0_len _ _ h0, ((Below.refl _ _).alloc (Nat.le_refl _) _).alloc (by simp) _, hR.symm, come0_ty _ _⟩
  clear hR
  have HN : Hid (ins.length = ins.length) := rfl
  generalize hlen : ins.length = n at h0 hn hmk p1 p1' hmc HI0
  have HL : Hid _ := hlen
  clear hlen
  go_enter Tryz.func143, Tryz.ntmps143
  go_wp2_with fail
  generalize ((w.alloc (.cells ((madeCells #[.pointer none] n).setIfInBounds 0 (.pointer (some ⟨w.heap.size + 1, 0, none⟩))) 285)).alloc (.cells #[.slice none 0 0, .slice none 0 0] 289)) = W0 at *
  go_loopw [24] (fun iv wr => ∃ i : Nat, i ≤ n ∧ iv = .int .i64 i ∧ Hid (SndI w wr (byteAt b 2) ins depth i R)) (fun iv _ => n - (intOf iv).toNat)
  case atStart => exact ⟨0, Nat.zero_le _, rfl, HI0.out⟩
  case round =>
    obtain ⟨i, hi, rfl, HI⟩ := hrel
    obtain ⟨O, come, hca, hcl, hbw, hr, hty⟩ := HI.out
    by_cases hlt : i < n
    · have hmr := HM.out.below hbw
      have hil : i < ins.length := by rw [HL.out]; exact hlt
      have q0 := hmr.op i hil
      have q1 := hmr.num i hil
      have q2 := hmr.tos i hil
      have q3 := hmr.pls i hil
      have hib : (0 : Int) ≤ (i : Int) ∧ (i : Int) < (n : Int) := by omega
      have hdrop : ins.drop i = ins.getD i noIns :: ins.drop (i + 1) := by
        rw [List.drop_eq_getElem_cons hil, List.getD_eq_getElem?_getD, List.getElem?_eq_getElem hil]; rfl
      rw [hdrop] at hr
      have hXO := H.out.1 _ (getD_ins hil)
      have HLG : Hid _ := leads_go H.out hil
      generalize ins.getD i noIns = x at *
      cases hk : come.getD i none with
      | none =>
        have hcell := hca.non i (Nat.le_refl _) (by omega) hk
        have HNX : Hid (∀ o, SndI w (wr.alloc o) (byteAt b 2) ins depth (i + 1) R) := fun o => by
          have hb1 : Below wr.heap.size wr (wr.alloc o) := (Below.refl _ _).alloc (Nat.le_refl _) _
          refine ⟨O, come, (hca.from (by omega)).below' hb1, hcl, hbw.trans (hb1.mono hbw.size), ?_, hty⟩
          rw [hr, flowK, hk]
        have hcell2 : ∀ o, (wr.alloc o).cell? ⟨w.heap.size, i, none⟩ = some (.pointer none) := fun o => by
          rw [World.cell?_of_block (w := wr) (a := ⟨w.heap.size, i, none⟩) (Below.heap_alloc wr o w.heap.size hca.lt)]; exact hcell
        clear hca hcl hbw hr hty hmr hdrop hXO HLG HI hk
        go_wp2
        go_roundw
        case rel => exact ⟨i + 1, by omega, by go_num, HNX.out _⟩
        case measure => simp [intOf]; omega
      | some k =>
        obtain ⟨p, vs, vc, st, c, hcell, hset, hkn, hO⟩ := hca.som i (Nat.le_refl _) (by omega) k hk
        have hcell2 : ∀ o, (wr.alloc o).cell? ⟨w.heap.size, i, none⟩ = some (.pointer (some ⟨p, 0, none⟩)) := fun o => by
          rw [World.cell?_of_block (w := wr) (a := ⟨w.heap.size, i, none⟩) (Below.heap_alloc wr o w.heap.size hca.lt)]; exact hcell
        obtain ⟨t1, t2, t3, t4⟩ := hty i k hk
        have hno := num_ok hXO
        have hcells := byte_lt b 2
        have hn4 : x.op = 4 ∨ x.op = 5 ∨ x.op = 6 → 0 ≤ x.n ∧ x.n ≤ 255 := fun e => by
          obtain ⟨a1, _, a2⟩ := hno.two (by unfold sizeOp; rw [if_neg (by omega), if_pos (by omega)])
          exact ⟨a1, a2⟩
        have hn5 : x.op = 5 → x.n.toNat < k.cl.length := fun e => by
          obtain ⟨a1, a2, _⟩ := hno.two (by unfold sizeOp; rw [if_neg (by omega), if_pos (by omega)])
          unfold boundOp at a2
          rw [if_neg (by omega), if_neg (by omega), if_neg (by omega), if_pos (by omega)] at a2
          omega
        have hch := change_does hkn t1 x.op x.n.toNat hno.op hn5
        obtain ⟨w1, hw1⟩ : ∃ w1, wr.alloc (.cells #[.int .i64 (x.op : Nat), .int .i64 x.n, .int .i64 (toOf ins x), .int .i64 (x.pl : Nat)] 247) = w1 := ⟨_, rfl⟩
        have hb1 : Below wr.heap.size wr w1 := by rw [← hw1]; exact (Below.refl _ _).alloc (Nat.le_refl _) _
        have hbk1 : w1.heap[wr.heap.size]? = some (insO x.op x.n (toOf ins x) (x.pl : Nat)) := by rw [← hw1]; exact heap_alloc_new wr _
        have hca1 := hca.below' hb1
        have hset1 := hset.only (Only.of_below (F := fun _ => False) hb1) (fun _ _ h => h)
        have hbw1 : Below w.heap.size w w1 := hbw.trans (hb1.mono hbw.size)
        have hEp : Ef w := HEf.out
        have hE1 : Ef w1 := hEp.below hEp.pos hbw1
        have hlst : st.length ≤ 24 := by rw [hkn.st]; simpa [stI] using t4
        have hlc : c.length ≤ 256 := by have := hkn.len; omega
        have W1 := change_any (w := w1.drew) x.op x.n (toOf ins x) (x.pl : Nat) hE1 hset1.drew (by omega) hlc (by have := hno.op; omega) hn4
        have hS0 : w1.cell? ⟨cp, 2, none⟩ = some (.int .i64 depth) ∧ w1.cell? ⟨wr.heap.size, 0, none⟩ = some (.int .i64 (x.op : Nat)) ∧ w1.cell? ⟨wr.heap.size, 1, none⟩ = some (.int .i64 x.n) ∧ w1.cell? ⟨wr.heap.size, 2, none⟩ = some (.int .i64 (toOf ins x)) ∧ w1.cell? ⟨wr.heap.size, 3, none⟩ = some (.int .i64 (x.pl : Nat)) := by
          have hcc := fun j => cell_of_row w1 _ j _ _ _ hbk1
          exact ⟨by rw [hbw1.cell (p := ⟨cp, 2, none⟩) (lt_of_get HM.out.blk)]; exact p2, hcc 0, hcc 1, hcc 2, hcc 3⟩
        have hHW : Hid _ := hw1
        have hcw1 : w1.cell? ⟨w.heap.size, i, none⟩ = some (.pointer (some ⟨p, 0, none⟩)) := by rw [← hw1]; exact hcell2 _
        unfold insV at W1
        rw [flowK, hk] at hr
        simp only [] at hr
        cases hdk : doesK x.op x.n.toNat k with
        | none =>
          rw [hdk] at hch hr
          have hch' : changeR x.op x.n.toNat st c = none := hch
          rw [hch'] at W1
          have HRf : Hid (R = false) := hr
          have HBl : Hid (∀ w2, Only (Foot p vs vc) w1 w2 → Below w.heap.size w w2) := fun w2 h2 => hbw1.trans (h2.below hbw1.size (fun b _ hb => hca1.low b (by rw [hO b hb]; omega)))
          have KP : Hid (∀ w2, Only (Foot p vs vc) w1 w2 → (w2.cell? ⟨cp, 2, none⟩ = some (.int .i64 depth) ∧ w2.cell? ⟨wr.heap.size, 0, none⟩ = some (.int .i64 (x.op : Nat)) ∧ w2.cell? ⟨wr.heap.size, 1, none⟩ = some (.int .i64 x.n) ∧ w2.cell? ⟨wr.heap.size, 2, none⟩ = some (.int .i64 (toOf ins x)) ∧ w2.cell? ⟨wr.heap.size, 3, none⟩ = some (.int .i64 (x.pl : Nat)))) := fun w2 h2 => by
            have hbk2 : w2.heap[wr.heap.size]? = _ := (h2.block _ (lt_of_get hbk1) (fun hf => by have := hset.lt hf; omega)).trans hbk1
            have hcc := fun j => cell_of_row w2 _ j _ _ _ hbk2
            exact ⟨by rw [(HBl.out w2 h2).cell (p := ⟨cp, 2, none⟩) (lt_of_get HM.out.blk)]; exact p2, hcc 0, hcc 1, hcc 2, hcc 3⟩
          clear hca hcl hbw hr hty hmr hdrop hXO HLG HI hk hset hkn hO t1 t2 t3 t4 hno hn4 hn5 hch hch' hb1 hbk1 hca1 hset1 hbw1 hEp hE1 hdk
          clear hw1
          go_wp2_with fail
          rw [hHW.out]
          refine wp_region_held_drew (S := fun w2 => w2.cell? ⟨cp, 2, none⟩ = some (.int .i64 depth) ∧ w2.cell? ⟨wr.heap.size, 0, none⟩ = some (.int .i64 (x.op : Nat)) ∧ w2.cell? ⟨wr.heap.size, 1, none⟩ = some (.int .i64 x.n) ∧ w2.cell? ⟨wr.heap.size, 2, none⟩ = some (.int .i64 (toOf ins x)) ∧ w2.cell? ⟨wr.heap.size, 3, none⟩ = some (.int .i64 (x.pl : Nat))) (by kernel_rfl) hS0 (fun hHeld => ?_)
          refine wpAnyH_take (i := 0) (v := .agg #[.int .i64 (x.op : Nat), .int .i64 x.n, .int .i64 (toOf ins x), .int .i64 (x.pl : Nat)]) rfl (by kernel_rfl) (by kernel_rfl) (by kernel_rfl) (fun _ _ _ h => h) (Or.inl ⟨by rfl, fun w hSw => ?_⟩) hHeld ?_
          · dsimp only at hSw; obtain ⟨s0, s1, s2, s3, s4⟩ := hSw; go_simp
          simp only [List.getElem_toArray, List.getElem_cons_zero, List.getElem_cons_succ, Act.put, List.setIfInBounds_toArray, List.set_cons_zero, List.set_cons_succ]
          refine wpAnyH_take (i := 1) (v := .pointer (some ⟨p, 0, none⟩)) rfl (by kernel_rfl) (by kernel_rfl) (by kernel_rfl) (fun _ _ _ h => h) (Or.inl ⟨by rfl, fun w hSw => ?_⟩) hHeld ?_
          · dsimp only at hSw; obtain ⟨s0, s1, s2, s3, s4⟩ := hSw; go_simp
          simp only [List.getElem_toArray, List.getElem_cons_zero, List.getElem_cons_succ, Act.put, List.setIfInBounds_toArray, List.set_cons_zero, List.set_cons_succ]
          refine wpAnyH_ready (rs := [2]) (by kernel_rfl) (by simp) ?_
          refine AllReadyH.cons rfl (fun K hK => ?_) AllReadyH.nil
          go_simp
          refine W1.mono ?_
          rintro e w2 ⟨rfl, ho2⟩
          dsimp only
          clear hHeld
          refine hK.out _ _ (KP.out _ ho2.of_drew) (fun hHeld => ?_)
          have HU : Hid _ := HBl.out w2 ho2.of_drew
          clear ho2 KP hK
          refine wpAnyH_take (i := 3) (v := .bool true) rfl (by kernel_rfl) (by kernel_rfl) (by kernel_rfl) (fun _ _ _ h => h) (Or.inl ⟨by rfl, fun w hSw => ?_⟩) hHeld ?_
          · dsimp only at hSw; obtain ⟨s0, s1, s2, s3, s4⟩ := hSw; go_simp
          simp only [List.getElem_toArray, List.getElem_cons_zero, List.getElem_cons_succ, Act.put, List.setIfInBounds_toArray, List.set_cons_zero, List.set_cons_succ]
          refine wpAnyH_take (i := 4) (v := .bool true) rfl (by kernel_rfl) (by kernel_rfl) (by kernel_rfl) (fun _ _ _ h => h) (Or.inl ⟨by rfl, fun w hSw => ?_⟩) hHeld ?_
          · dsimp only at hSw; obtain ⟨s0, s1, s2, s3, s4⟩ := hSw; go_simp
          simp only [List.getElem_toArray, List.getElem_cons_zero, List.getElem_cons_succ, Act.put, List.setIfInBounds_toArray, List.set_cons_zero, List.set_cons_succ]
          refine wpAnyH_take (i := 5) (v := undef) rfl (by kernel_rfl) (by kernel_rfl) (by kernel_rfl) (fun _ _ _ h => h) (Or.inr ⟨by rfl, rfl⟩) hHeld ?_
          simp only [List.getElem_toArray, List.getElem_cons_zero, List.getElem_cons_succ, Act.put, List.setIfInBounds_toArray, List.set_cons_zero, List.set_cons_succ]
          refine wpAnyH_take (i := 6) (v := undef) rfl (by kernel_rfl) (by kernel_rfl) (by kernel_rfl) (fun _ _ _ h => h) (Or.inr ⟨by rfl, rfl⟩) hHeld ?_
          simp only [List.getElem_toArray, List.getElem_cons_zero, List.getElem_cons_succ, Act.put, List.setIfInBounds_toArray, List.set_cons_zero, List.set_cons_succ]
          refine wpAnyH_take (i := 7) (v := undef) rfl (by kernel_rfl) (by kernel_rfl) (by kernel_rfl) (fun _ _ _ h => h) (Or.inr ⟨by rfl, rfl⟩) hHeld ?_
          simp only [List.getElem_toArray, List.getElem_cons_zero, List.getElem_cons_succ, Act.put, List.setIfInBounds_toArray, List.set_cons_zero, List.set_cons_succ]
          refine wpAnyH_take (i := 8) (v := undef) rfl (by kernel_rfl) (by kernel_rfl) (by kernel_rfl) (fun _ _ _ h => h) (Or.inr ⟨by rfl, rfl⟩) hHeld ?_
          simp only [List.getElem_toArray, List.getElem_cons_zero, List.getElem_cons_succ, Act.put, List.setIfInBounds_toArray, List.set_cons_zero, List.set_cons_succ]
          refine wpAnyH_take (i := 9) (v := undef) rfl (by kernel_rfl) (by kernel_rfl) (by kernel_rfl) (fun _ _ _ h => h) (Or.inr ⟨by rfl, rfl⟩) hHeld ?_
          simp only [List.getElem_toArray, List.getElem_cons_zero, List.getElem_cons_succ, Act.put, List.setIfInBounds_toArray, List.set_cons_zero, List.set_cons_succ]
          refine wpAnyH_take (i := 10) (v := undef) rfl (by kernel_rfl) (by kernel_rfl) (by kernel_rfl) (fun _ _ _ h => h) (Or.inr ⟨by rfl, rfl⟩) hHeld ?_
          simp only [List.getElem_toArray, List.getElem_cons_zero, List.getElem_cons_succ, Act.put, List.setIfInBounds_toArray, List.set_cons_zero, List.set_cons_succ]
          refine wpAnyH_take (i := 11) (v := undef) rfl (by kernel_rfl) (by kernel_rfl) (by kernel_rfl) (fun _ _ _ h => h) (Or.inr ⟨by rfl, rfl⟩) hHeld ?_
          simp only [List.getElem_toArray, List.getElem_cons_zero, List.getElem_cons_succ, Act.put, List.setIfInBounds_toArray, List.set_cons_zero, List.set_cons_succ]
          refine wpAnyH_take (i := 12) (v := undef) rfl (by kernel_rfl) (by kernel_rfl) (by kernel_rfl) (fun _ _ _ h => h) (Or.inr ⟨by rfl, rfl⟩) hHeld ?_
          simp only [List.getElem_toArray, List.getElem_cons_zero, List.getElem_cons_succ, Act.put, List.setIfInBounds_toArray, List.set_cons_zero, List.set_cons_succ]
          refine wpAnyH_take (i := 13) (v := undef) rfl (by kernel_rfl) (by kernel_rfl) (by kernel_rfl) (fun _ _ _ h => h) (Or.inr ⟨by rfl, rfl⟩) hHeld ?_
          simp only [List.getElem_toArray, List.getElem_cons_zero, List.getElem_cons_succ, Act.put, List.setIfInBounds_toArray, List.set_cons_zero, List.set_cons_succ]
          refine wpAnyH_take (i := 14) (v := .bool true) rfl (by kernel_rfl) (by kernel_rfl) (by kernel_rfl) (fun _ _ _ h => h) (Or.inl ⟨by rfl, fun w hSw => ?_⟩) hHeld ?_
          · dsimp only at hSw; obtain ⟨s0, s1, s2, s3, s4⟩ := hSw; go_simp
          simp only [List.getElem_toArray, List.getElem_cons_zero, List.getElem_cons_succ, Act.put, List.setIfInBounds_toArray, List.set_cons_zero, List.set_cons_succ]
          refine wpAnyH_done (by kernel_rfl) ?_ _
          go_wp2
          go_ret
          exact ⟨by rw [HRf.out]; rfl, HU.out⟩
        | some k' =>
          rw [hdk] at hch hr
          obtain ⟨st', c', hch', hkn'⟩ := hch
          rw [hch'] at W1
          simp only [] at hr
          obtain ⟨y1, y2, y3⟩ := does_tys hno.op t1 t2 hdk
          have HCH : Hid (∀ w2, SetOut w1 w2 p vs vc st' c' → ∃ O' vs' vc', ComeAt w2 w.heap.size w.heap.size (i + 1) O' come ∧ SetAt w2 p vs' vc' st' c' ∧ (∀ b, Foot p vs' vc' b → O' b = i + 1) ∧ (∀ b, w2.heap.size ≤ b → O' b = 0) ∧ Below w.heap.size w w2 ∧ w2.heap[wr.heap.size]? = some (insO x.op x.n (toOf ins x) (x.pl : Nat)) ∧ w2.cell? ⟨cp, 2, none⟩ = some (.int .i64 depth)) := fun w2 h2 => by
            obtain ⟨O', vs', vc', z1, z2, z3, z4, z5⟩ := hca1.change hO h2
            have hbl := hbw1.trans z5
            exact ⟨O', vs', vc', z1, z2, z3, z4, hbl, (h2.only.block _ (lt_of_get hbk1) (fun hf => by have := hset.lt hf; omega)).trans hbk1, by rw [hbl.cell (p := ⟨cp, 2, none⟩) (lt_of_get HM.out.blk)]; exact p2⟩
          have hkl : st'.length = k'.st.length := by rw [hkn'.st]; simp [stI]
          have KP : Hid (∀ w2, SetOut w1 w2 p vs vc st' c' → (w2.cell? ⟨cp, 2, none⟩ = some (.int .i64 depth) ∧ w2.cell? ⟨wr.heap.size, 0, none⟩ = some (.int .i64 (x.op : Nat)) ∧ w2.cell? ⟨wr.heap.size, 1, none⟩ = some (.int .i64 x.n) ∧ w2.cell? ⟨wr.heap.size, 2, none⟩ = some (.int .i64 (toOf ins x)) ∧ w2.cell? ⟨wr.heap.size, 3, none⟩ = some (.int .i64 (x.pl : Nat)))) := fun w2 h2 => by
            obtain ⟨O', vs', vc', z1, z2, z3, z4, z5, z6, z7⟩ := HCH.out w2 h2
            have hcc := fun j => cell_of_row w2 _ j _ _ _ z6
            exact ⟨z7, hcc 0, hcc 1, hcc 2, hcc 3⟩
          have W2 : ∀ W, SetOut w1 W p vs vc st' c' → Calls Tryz.prog 189 #[.pointer (some ⟨p, 0, none⟩)] W fun e w' => e = .returned (.int .i64 (k'.st.length : Nat)) ∧ w' = W := fun W h => by
            obtain ⟨vs', vc', z2, _, _⟩ := h
            rw [← hkl]
            exact theight_any (v := vs') z2.blk rfl z2.st
          clear hca hbw hmr hdrop hXO HI hk hset hkn hO t1 t2 t4 hno hn4 hn5 hch' hb1 hbk1 hca1 hset1 hbw1 hEp hE1 hdk
          clear hw1
          have HR : Hid _ := hr
          clear hr
          by_cases hdep : depth < k'.st.length
          · have hd1 : (depth : Int) < (k'.st.length : Int) := by omega
            have HRf : Hid (R = false) := HR.out.trans (if_pos hdep)
            go_wp2_with fail
            rw [hHW.out]
            go_region_held3 (fun w2 => w2.cell? ⟨cp, 2, none⟩ = some (.int .i64 depth) ∧ w2.cell? ⟨wr.heap.size, 0, none⟩ = some (.int .i64 (x.op : Nat)) ∧ w2.cell? ⟨wr.heap.size, 1, none⟩ = some (.int .i64 x.n) ∧ w2.cell? ⟨wr.heap.size, 2, none⟩ = some (.int .i64 (toOf ins x)) ∧ w2.cell? ⟨wr.heap.size, 3, none⟩ = some (.int .i64 (x.pl : Nat))) (first | with_reducible exact KP.out _ (by assumption) | with_reducible assumption | go_keep)
              (first
                | (go_at_call 188; refine W1.mono ?_; rintro e w2 ⟨rfl, ho2⟩; replace ho2 := ho2.of_drew)
                | (go_at_call 189; refine (W2 _ (by assumption)).mono ?_; rintro e w3 ⟨rfl, rfl⟩))
            rename_i hHeld
            obtain ⟨O', vs', vc', z1, z2, z3, z4, z5, z6, z7⟩ := HCH.out w3 ho2
            have HU : Hid _ := z5
            clear hHeld ho2 KP HCH W1 W2 z1 z2 z3 z4 z5 z6 z7
            go_wp2
            go_ret
            exact ⟨by rw [HRf.out]; rfl, HU.out⟩
          · have hd1 : ¬ ((depth : Int) < (k'.st.length : Int)) := by omega
            have HR2 : Hid _ := HR.out.trans (if_neg hdep)
            have HKT : Hid (Tys1 k'.st ∧ Tys k'.cl ∧ k'.cl.length = byteAt b 2 ∧ k'.st.length ≤ 24) := ⟨y1, y2, by omega, by omega⟩
            go_wp2_with fail
            rw [hHW.out]
            go_region_held3 (fun w2 => w2.cell? ⟨cp, 2, none⟩ = some (.int .i64 depth) ∧ w2.cell? ⟨wr.heap.size, 0, none⟩ = some (.int .i64 (x.op : Nat)) ∧ w2.cell? ⟨wr.heap.size, 1, none⟩ = some (.int .i64 x.n) ∧ w2.cell? ⟨wr.heap.size, 2, none⟩ = some (.int .i64 (toOf ins x)) ∧ w2.cell? ⟨wr.heap.size, 3, none⟩ = some (.int .i64 (x.pl : Nat))) (first | with_reducible exact KP.out _ (by assumption) | with_reducible assumption | go_keep)
              (first
                | (go_at_call 188; refine W1.mono ?_; rintro e w2 ⟨rfl, ho2⟩; replace ho2 := ho2.of_drew)
                | (go_at_call 189; refine (W2 _ (by assumption)).mono ?_; rintro e w3 ⟨rfl, rfl⟩))
            rename_i hHeld
            obtain ⟨O', vs', vc', z1, z2, z3, z4, z5, z6, z7⟩ := HCH.out w3 ho2
            obtain ⟨s0, s1, s2, s3, s4⟩ := hHeld
            have W3 := goesOn_any x.op x.n (toOf ins x) (x.pl : Nat) i (by omega) w3
            unfold insV at W3
            have HI3 : Hid (∀ w4 v, IR w4 3 v (goL x.op (toOf ins x) i) → Below w3.heap.size w3 w4 → (∀ b, v.ownBlock = some b → w3.heap.size ≤ b) → InI w w4 (byteAt b 2) ins i p vs' vc' st' c' v (goL x.op (toOf ins x) i) k' come (leadsK ins i x) 0 O' come) := fun w4 v h1 h2 h3 =>
              ⟨z1.below' h2, hcl, z2.only (Only.of_below (F := fun _ => False) h2) (fun _ _ h => h), z3, h1, fun b hb => z4 b (h3 b hb), z5.trans (h2.mono z5.size), rfl, hty⟩
            have HKN : Hid _ := hkn'
            clear ho2 KP HCH W1 W2 z1 z2 z3 z4 z5 z6 z7 hkn' hty hcl y1 y2 y3 hcell hcell2 hcw1 hS0 hdep hkl
            have hL2 : (goL x.op (toOf ins x) i).length ≤ 2 := by unfold goL; (repeat' split) <;> simp
            generalize goL x.op (toOf ins x) i = L at *
            go_wp2_with (
              go_at_call 190
              refine W3.mono ?_
              rintro e w4 ⟨⟨v, rfl, hrow, hfr⟩, hb4⟩
              obtain ⟨la, lcap, rfl⟩ := hrow.sl
              have HJ : Hid _ := HI3.out w4 _ hrow hb4 hfr
              clear hrow hfr hb4 W3 HI3 s0 s1 s2 s3 s4)
            go_loopw [54] (fun mv wi => ∃ m : Nat, m ≤ L.length ∧ mv = .int .i64 m ∧ Hid (∃ O2 come2, InI w wi (byteAt b 2) ins i p vs' vc' st' c' (.slice la L.length lcap) L k' come (leadsK ins i x) m O2 come2)) (fun mv _ => L.length - (intOf mv).toNat)
            case atStart => exact ⟨0, Nat.zero_le _, rfl, _, _, HJ.out⟩
            case round =>
              obtain ⟨m, hm, rfl, HK⟩ := hrel
              obtain ⟨O2, come2, hI⟩ := HK.out
              obtain ⟨g1, g2⟩ := HLG.out
              by_cases hml : m < L.length
              · obtain ⟨lb, lc2, e1, _⟩ := hI.row.form (by omega)
                simp at e1
                obtain ⟨rfl, rfl⟩ := e1
                have hrc := hI.row.cell hml
                have W4 := hI.come (cap := n) HKN.out HKT.out (by omega) (by omega) (by have := HL.out; omega) (g2 m (by omega))
                rw [HL.out] at W4
                have hmb : (0 : Int) ≤ (m : Int) ∧ (m : Int) < (L.length : Int) := by omega
                clear hI g1 g2 HK HJ
                generalize L.getD m 0 = y at *
                have HMB : Hid (m + 1 ≤ L.length) := by show _ ≤ _; omega
                go_wp2_with fail
                refine W4.mono ?_
                rintro e w5 ⟨r, rfl, hb5, ht5, hf5⟩
                clear W4 hrc
                cases r with
                | false =>
                  have HRf : Hid (R = false) := by
                    show R = false
                    rw [HR2.out, hf5 rfl]
                  have HB5 : Hid _ := hb5
                  clear hb5 ht5 hf5
                  go_wp2
                  go_ret
                  exact ⟨by rw [HRf.out]; rfl, HB5.out⟩
                | true =>
                  have HN5 : Hid _ := ht5 rfl
                  clear hb5 ht5 hf5
                  go_wp2
                  go_roundw
                  case rel => exact ⟨m + 1, HMB.out, by go_num, HN5.out⟩
                  case measure => have := HMB.out; simp [intOf]; omega
              · have hml2 : m = L.length := by omega
                have HS5 : Hid (SndI w wr (byteAt b 2) ins depth (i + 1) R) := by
                  refine ⟨O2, come2, hI.at_, hI.len, hI.bel, ?_, hI.typ⟩
                  have hbr := hI.bri
                  rw [List.drop_of_length_le (by omega)] at hbr
                  rw [HR2.out, hbr]; rfl
                clear hI g1 g2 HK HJ
                go_wp2
                exact ⟨⟨i + 1, by omega, by go_num, HS5.out⟩, by simp [intOf]; omega⟩
    · have HE : Hid (R = true) := by
        show _ = _
        rw [hr, List.drop_of_length_le (by rw [HL.out]; omega)]; rfl
      have HB : Hid _ := hbw
      clear hca hcl hbw hr hty HI
      go_wp2
      go_ret
      exact ⟨by rw [HE.out]; rfl, HB.out⟩
end Go.Proofs.YtfkdailfcmnjlaaGreatDoor

namespace Go.Proofs.YtfkdailfcmnjlaaGreatDoor
open Go Go.RowKit
set_option maxRecDepth 100000
attribute [local go_sem ↓] Go.wp_at_zero Go.wp_at_succ

def followP (op : Nat) : Nat := if op = 1 then 8 else if op = 15 ∨ op = 16 then 2 else if 2 ≤ op ∧ op ≤ 6 ∨ op = 17 ∨ op = 18 then 1 else 0
theorem size_follow {op : Nat} (h : sizeOp op ≠ 0) : sizeOp op = 1 + followP op := by
  obtain ⟨h1, h2⟩ := size_op h
  have e : op = 1 ∨ op = 2 ∨ op = 3 ∨ op = 4 ∨ op = 5 ∨ op = 6 ∨ op = 7 ∨ op = 8 ∨ op = 9 ∨ op = 10 ∨ op = 11 ∨ op = 12 ∨ op = 13 ∨ op = 14 ∨ op = 15 ∨ op = 16 ∨ op = 17 ∨ op = 18 := by omega
  rcases e with rfl | rfl | rfl | rfl | rfl | rfl | rfl | rfl | rfl | rfl | rfl | rfl | rfl | rfl | rfl | rfl | rfl | rfl <;> rfl
theorem follow_le (op : Nat) : followP op ≤ 8 := by unfold followP; (repeat' split) <;> omega
set_option maxHeartbeats 2000000 in
theorem following_any (op : Nat) (w : World) : Calls Tryz.prog 141 #[.int .i64 op] w fun e w' => e = .returned (.int .i64 (followP op : Nat)) ∧ w' = w := by
  go_enter Tryz.func141, Tryz.ntmps141
  go_wp2
  all_goals go_ret
  all_goals refine ⟨ret_int ?_, rfl⟩
  all_goals (simp only [beq_iff_eq, beq_eq_false_iff_ne, ne_eq] at *; unfold followP; repeat' split) <;> first | rfl | omega
set_option maxHeartbeats 2000000 in
theorem psize_any (op : Nat) (n tj pl : Int) (w : World) : Calls Tryz.prog 139 #[insV op n tj pl] w fun e w' => e = .returned (.int .i64 ((1 + followP op : Nat) : Int)) ∧ Below w.heap.size w w' := by
  have W1 := fun w => following_any op w
  have hf := follow_le op
  generalize followP op = f at *
  unfold insV
  have HB : Hid (∀ o, Below w.heap.size w (w.alloc o)) := fun o => (Below.refl _ _).alloc (Nat.le_refl _) _
  go_enter Tryz.func139, Tryz.ntmps139
  go_wp2_with (
    go_at_call 141
    refine (W1 _).mono ?_
    rintro e w' ⟨rfl, rfl⟩)
  go_ret
  refine ⟨ret_int ?_, HB.out _⟩
  go_num
set_option maxHeartbeats 2000000 in
theorem jumps_any (op : Nat) (n tj pl : Int) (w : World) : Calls Tryz.prog 138 #[insV op n tj pl] w fun e w' => e = .returned (.bool (decide (op = 15 ∨ op = 16))) ∧ Below w.heap.size w w' := by
  unfold insV
  have HB : Hid (∀ o, Below w.heap.size w (w.alloc o)) := fun o => (Below.refl _ _).alloc (Nat.le_refl _) _
  by_cases h16 : op = 16
  · subst h16
    go_enter Tryz.func138, Tryz.ntmps138
    go_wp2
    go_ret
    exact ⟨rfl, HB.out _⟩
  · by_cases h15 : op = 15
    · subst h15
      go_enter Tryz.func138, Tryz.ntmps138
      go_wp2
      go_ret
      exact ⟨rfl, HB.out _⟩
    · have hR : decide (op = 15 ∨ op = 16) = false := by simp [h15, h16]
      rw [hR]
      have b16 : ((op : Int) == 16) = false := by simp; omega
      have b15 : ((op : Int) == 15) = false := by simp; omega
      clear hR h15 h16
      go_enter Tryz.func138, Tryz.ntmps138
      go_wp2
      go_ret
      exact ⟨rfl, HB.out _⟩
theorem pba_at (l : List UInt8) (i : Nat) (h : i < (ByteArray.mk l.toArray).size) : ((ByteArray.mk l.toArray)[i]).toNat = byteAt l i := by
  have h' : i < l.length := h
  show (l.toArray[i]).toNat = _
  unfold byteAt
  rw [List.getD_eq_getElem?_getD, List.getElem?_eq_getElem h']; rfl
/-- What two ways of writing a number in eight bits more give. -/
theorem or_byte {V c : Nat} (hV : V < 72057594037927936) (hc : c < 256) : bits .or .i64 (IntKind.i64.wrap ((V : Int) * 2 ^ 8)) (c : Int) = signed64 (V * 256 + c) := by
  unfold bits
  simp only []
  have e1 : (BitVec.ofInt IntKind.i64.bits (IntKind.i64.wrap ((V : Int) * 2 ^ 8))).toNat = V * 256 := by
    rw [BitVec.toNat_ofInt, IntKind.wrap_i64]; simp only [IntKind.bits]; omega
  have e2 : (BitVec.ofInt IntKind.i64.bits (c : Int)).toNat = c := by rw [BitVec.toNat_ofInt]; simp only [IntKind.bits]; omega
  have e3 : V * 256 ||| c = V * 256 + c := by
    have := Nat.shiftLeft_add_eq_or_of_lt (i := 8) (b := c) (by omega) V
    rw [Nat.shiftLeft_eq] at this
    exact this.symm
  rw [BitVec.toNat_or, e1, e2, e3, IntKind.wrap_i64]
  unfold signed64
  split <;> omega
set_option maxHeartbeats 2000000 in
theorem cnumber_any (l : List UInt8) (hl : l.length ≤ 8) (w : World) : Calls Tryz.prog 185 #[S l] w fun e w' => e = .returned (.int .i64 (signed64 (beVal l 0 l.length))) ∧ w' = w := by
  have HV : Hid (∀ k, k < l.length → beVal l 0 k < 72057594037927936 ∧ beVal l 0 (k + 1) = beVal l 0 k * 256 + byteAt l k) := fun k hk => by
    refine ⟨?_, by rw [beVal, Nat.zero_add]⟩
    have h1 := beVal_lt l 0 k
    have h2 : 256 ^ k ≤ 256 ^ 7 := Nat.pow_le_pow_right (by decide) (by omega)
    have h3 : (256 : Nat) ^ 7 = 72057594037927936 := by decide
    omega
  go_enter Tryz.func185, Tryz.ntmps185
  go_wp2_with fail
  go_loop [3, 7] (fun nv kv => ∃ k : Nat, k ≤ l.length ∧ kv = .int .i64 k ∧ nv = .int .i64 (signed64 (beVal l 0 k))) (fun _ kv => l.length - (intOf kv).toNat)
  case atStart => exact ⟨0, Nat.zero_le _, rfl, rfl⟩
  case round =>
    obtain ⟨k, hk, rfl, rfl⟩ := hrel
    by_cases hlt : k < l.length
    · obtain ⟨h1, h2⟩ := HV.out k hlt
      have hs : signed64 (beVal l 0 k) = (beVal l 0 k : Nat) := by unfold signed64; rw [if_pos (by omega)]
      have hsz : k < (ByteArray.mk l.toArray).size := hlt
      have hba := pba_at l k hsz
      have hc : byteAt l k < 256 := byte_lt l k
      have HOB : Hid _ := or_byte h1 hc
      have hba2 : ((ByteArray.mk l.toArray)[k]).toNat = byteAt l k := hba
      have HN : Hid (signed64 (beVal l 0 (k + 1)) = signed64 (beVal l 0 k * 256 + byteAt l k)) := by show _ = _; rw [h2]
      rw [hs]
      generalize beVal l 0 k = V at *
      generalize byteAt l k = q at *
      clear hba h2 hs
      go_wp2
      refine ⟨⟨k + 1, by omega, by go_num, ?_⟩, by simp [intOf]; omega⟩
      rw [HN.out, ← HOB.out]
      congr 2
      all_goals first | rfl | (simp [IntKind.wrap_i64, RowKit.wrap64])
    · have hkl : k = l.length := by omega
      subst hkl
      go_wp2
      go_ret
      exact ⟨rfl, rfl⟩
end Go.Proofs.YtfkdailfcmnjlaaGreatDoor

namespace Go.Proofs.YtfkdailfcmnjlaaGreatDoor
open Go Go.RowKit
set_option maxRecDepth 100000
attribute [local go_sem ↓] Go.wp_at_zero Go.wp_at_succ

def mayP (op : Nat) (n : Int) (cells : Nat) : Bool := if op = 2 then decide (n ≤ 1) else if op = 3 then decide (n ≤ 4) else if op = 4 then decide (n ≤ 8) else if op = 5 ∨ op = 6 then decide (n < (cells : Int)) else decide (1 ≤ op ∧ op ≤ 18)
set_option maxHeartbeats 4000000 in
theorem mayBe_any (op : Nat) (n tj pl : Int) {cp cells : Nat} {w : World} (hc : w.cell? ⟨cp, 0, none⟩ = some (.int .i64 cells)) : Calls Tryz.prog 186 #[.pointer (some ⟨cp, 0, none⟩), insV op n tj pl] w fun e w' => e = .returned (.bool (mayP op n cells)) ∧ Below w.heap.size w w' := by
  unfold insV
  have HB : Hid (∀ o, Below w.heap.size w (w.alloc o)) := fun o => (Below.refl _ _).alloc (Nat.le_refl _) _
  have hc2 : ∀ o, (w.alloc o).cell? ⟨cp, 0, none⟩ = some (.int .i64 cells) := fun o => by rw [World.cell?_of_block (w := w) (a := ⟨cp, 0, none⟩) (Below.heap_alloc w o cp (World.block_lt_of_cell? w _ hc))]; exact hc
  by_cases h2 : op = 2
  · subst h2
    have HR : Hid (mayP 2 n cells = decide (n ≤ 1)) := rfl
    generalize mayP 2 n cells = R at *
    go_enter Tryz.func186, Tryz.ntmps186
    go_wp2
    go_ret
    exact ⟨by rw [HR.out]; rfl, HB.out _⟩
  by_cases h3 : op = 3
  · subst h3
    have HR : Hid (mayP 3 n cells = decide (n ≤ 4)) := rfl
    generalize mayP 3 n cells = R at *
    go_enter Tryz.func186, Tryz.ntmps186
    go_wp2
    go_ret
    exact ⟨by rw [HR.out]; rfl, HB.out _⟩
  by_cases h4 : op = 4
  · subst h4
    have HR : Hid (mayP 4 n cells = decide (n ≤ 8)) := rfl
    generalize mayP 4 n cells = R at *
    go_enter Tryz.func186, Tryz.ntmps186
    go_wp2
    go_ret
    exact ⟨by rw [HR.out]; rfl, HB.out _⟩
  by_cases h5 : op = 5
  · subst h5
    have HR : Hid (mayP 5 n cells = decide (n < (cells : Int))) := rfl
    generalize mayP 5 n cells = R at *
    go_enter Tryz.func186, Tryz.ntmps186
    go_wp2_with fail
    first | go_region | skip
    go_wp2
    go_ret
    exact ⟨by rw [HR.out]; rfl, (HB.out _).drew⟩
  by_cases h6 : op = 6
  · subst h6
    have HR : Hid (mayP 6 n cells = decide (n < (cells : Int))) := rfl
    generalize mayP 6 n cells = R at *
    go_enter Tryz.func186, Tryz.ntmps186
    go_wp2_with fail
    first | go_region | skip
    go_wp2
    go_ret
    exact ⟨by rw [HR.out]; rfl, (HB.out _).drew⟩
  · have HR : Hid (mayP op n cells = decide (1 ≤ op ∧ op ≤ 18)) := by show _ = _; unfold mayP; rw [if_neg h2, if_neg h3, if_neg h4, if_neg (by omega)]
    generalize mayP op n cells = R at *
    have b2 : ((op : Int) == 2) = false := by simp; omega
    have b3 : ((op : Int) == 3) = false := by simp; omega
    have b4 : ((op : Int) == 4) = false := by simp; omega
    have b5 : ((op : Int) == 5) = false := by simp; omega
    have b6 : ((op : Int) == 6) = false := by simp; omega
    clear h2 h3 h4 h5 h6
    by_cases h1 : 1 ≤ op
    · have h1' : (1 : Int) ≤ (op : Int) := by omega
      go_enter Tryz.func186, Tryz.ntmps186
      go_wp2
      go_ret
      refine ⟨ret_bool ?_, HB.out _⟩
      rw [HR.out]
      apply decide_eq_decide.2
      omega
    · obtain rfl : op = 0 := by omega
      go_enter Tryz.func186, Tryz.ntmps186
      go_wp2
      go_ret
      exact ⟨by rw [HR.out]; rfl, HB.out _⟩
theorem byte_cut (b : List UInt8) (p q i : Nat) (h : p + i < q) : byteAt (cut b p q) i = byteAt b (p + i) := by
  unfold byteAt cut
  rw [List.getD_eq_getElem?_getD, List.getD_eq_getElem?_getD, List.getElem?_take_of_lt (by omega), List.getElem?_drop]
theorem be_cut (b : List UInt8) (p q : Nat) : ∀ n, p + n ≤ q → beVal (cut b p q) 0 n = beVal b p n
  | 0, _ => rfl
  | n + 1, h => by rw [beVal, beVal, be_cut b p q n (by omega), Nat.zero_add, byte_cut b p q n (by omega)]
/-- The number that the program reads. -/
def numP (b : List UInt8) (a : Nat) : Int := signed64 (beVal b (a + 1) (followP (byteAt b a)))
def okD (b : List UInt8) (a : Nat) : Prop := sizeOp (byteAt b a) ≠ 0 ∧ a + sizeOp (byteAt b a) ≤ b.length ∧ (sizeOp (byteAt b a) = 2 → (byteAt b (a + 1) : Int) ≤ boundOp (byteAt b a) (byteAt b 2))
theorem dec_succ {f : Nat} {b : List UInt8} {a : Nat} (h : a < b.length) : dec (f + 1) b a = if okD b a then (dec f b (a + sizeOp (byteAt b a))).map (insAt b a :: ·) else none := by
  rw [dec, if_neg (by omega)]; rfl
theorem may_op {op : Nat} {n : Int} {cells : Nat} (h : mayP op n cells = true) : 1 ≤ op ∧ op ≤ 18 := by
  unfold mayP at h
  by_cases h2 : op = 2
  · omega
  rw [if_neg h2] at h
  by_cases h3 : op = 3
  · omega
  rw [if_neg h3] at h
  by_cases h4 : op = 4
  · omega
  rw [if_neg h4] at h
  by_cases h5 : op = 5 ∨ op = 6
  · omega
  rw [if_neg h5] at h
  simpa using h
theorem size_pos {op : Nat} (h : 1 ≤ op ∧ op ≤ 18) : sizeOp op ≠ 0 := by
  have e : op = 1 ∨ op = 2 ∨ op = 3 ∨ op = 4 ∨ op = 5 ∨ op = 6 ∨ op = 7 ∨ op = 8 ∨ op = 9 ∨ op = 10 ∨ op = 11 ∨ op = 12 ∨ op = 13 ∨ op = 14 ∨ op = 15 ∨ op = 16 ∨ op = 17 ∨ op = 18 := by omega
  rcases e with rfl | rfl | rfl | rfl | rfl | rfl | rfl | rfl | rfl | rfl | rfl | rfl | rfl | rfl | rfl | rfl | rfl | rfl <;> decide
theorem signed_small {n : Nat} (h : n < 9223372036854775808) : signed64 n = n := by unfold signed64; rw [if_pos h]
theorem num_one {b : List UInt8} {a : Nat} (h : followP (byteAt b a) = 1) : numP b a = (byteAt b (a + 1) : Nat) := by
  unfold numP
  rw [h]
  have hb := byte_lt b (a + 1)
  have e : beVal b (a + 1) 1 = byteAt b (a + 1) := by simp [beVal]
  rw [e, signed_small (by omega)]
theorem read_short {b : List UInt8} {a : Nat} (h : b.length < a + 1 + followP (byteAt b a)) : ¬ okD b a := fun ⟨h1, h2, _⟩ => by
  rw [size_follow h1] at h2; omega
theorem may_iff {b : List UInt8} {a : Nat} (h : a + 1 + followP (byteAt b a) ≤ b.length) : mayP (byteAt b a) (numP b a) (byteAt b 2) = true ↔ okD b a := by
  have hb2 : byteAt b a = 2 ∨ byteAt b a = 3 ∨ byteAt b a = 4 ∨ byteAt b a = 5 ∨ byteAt b a = 6 → numP b a = (byteAt b (a + 1) : Nat) := fun e => num_one (by rcases e with e | e | e | e | e <;> rw [e] <;> rfl)
  constructor
  · intro hm
    have ho := may_op hm
    have hs := size_pos ho
    refine ⟨hs, by rw [size_follow hs]; omega, fun h2 => ?_⟩
    unfold mayP at hm
    unfold boundOp
    by_cases e2 : byteAt b a = 2
    · rw [if_pos e2] at hm ⊢; rw [hb2 (by omega)] at hm; simpa using hm
    rw [if_neg e2] at hm ⊢
    by_cases e3 : byteAt b a = 3
    · rw [if_pos e3] at hm ⊢; rw [hb2 (by omega)] at hm; simpa using hm
    rw [if_neg e3] at hm ⊢
    by_cases e4 : byteAt b a = 4
    · rw [if_pos e4] at hm ⊢; rw [hb2 (by omega)] at hm; simpa using hm
    rw [if_neg e4] at hm ⊢
    by_cases e5 : byteAt b a = 5 ∨ byteAt b a = 6
    · rw [if_pos e5] at hm ⊢; rw [hb2 (by omega)] at hm
      have := of_decide_eq_true hm
      omega
    rw [if_neg e5]
    have := byte_lt b (a + 1)
    omega
  · rintro ⟨hs, _, h2⟩
    have ho := size_op hs
    unfold mayP
    unfold boundOp at h2
    by_cases e2 : byteAt b a = 2
    · rw [if_pos e2] at h2 ⊢; rw [hb2 (by omega)]; have := h2 (by rw [e2]; rfl); simpa using this
    rw [if_neg e2] at h2 ⊢
    by_cases e3 : byteAt b a = 3
    · rw [if_pos e3] at h2 ⊢; rw [hb2 (by omega)]; have := h2 (by rw [e3]; rfl); simpa using this
    rw [if_neg e3] at h2 ⊢
    by_cases e4 : byteAt b a = 4
    · rw [if_pos e4] at h2 ⊢; rw [hb2 (by omega)]; have := h2 (by rw [e4]; rfl); simpa using this
    rw [if_neg e4] at h2 ⊢
    by_cases e5 : byteAt b a = 5 ∨ byteAt b a = 6
    · rw [if_pos e5] at h2 ⊢; rw [hb2 (by omega)]
      have := h2 (by rcases e5 with e5 | e5 <;> rw [e5] <;> rfl)
      exact decide_eq_true (by omega)
    rw [if_neg e5]
    exact decide_eq_true ho
theorem ins_read {b : List UInt8} {a : Nat} (h : okD b a) : insAt b a = ⟨byteAt b a, numP b a, a⟩ ∧ sizeOp (byteAt b a) = 1 + followP (byteAt b a) := by
  have hs := size_follow h.1
  refine ⟨?_, hs⟩
  have e : numAt b (byteAt b a) a = numP b a := by
    unfold numAt numP
    by_cases h1 : byteAt b a = 1
    · rw [if_pos h1, h1]; rfl
    · rw [if_neg h1, hs, show 1 + followP (byteAt b a) - 1 = followP (byteAt b a) by omega]
      have hle : followP (byteAt b a) ≤ 2 := by unfold followP; rw [if_neg h1]; (repeat' split) <;> omega
      have h2 := beVal_lt b (a + 1) (followP (byteAt b a))
      have h3 : 256 ^ followP (byteAt b a) ≤ 256 ^ 2 := Nat.pow_le_pow_right (by decide) hle
      rw [signed_small (by omega)]
  unfold insAt; rw [e]
end Go.Proofs.YtfkdailfcmnjlaaGreatDoor

namespace Go.Proofs.YtfkdailfcmnjlaaGreatDoor
open Go Go.RowKit
set_option maxRecDepth 100000
attribute [local go_sem ↓] Go.wp_at_zero Go.wp_at_succ

theorem isNaN_any (x : Int) (w : World) : Calls Tryz.prog 271 #[.int .i64 x] w fun e w' => e = .returned (.bool false) ∧ w' = w := by
  go_enter Tryz.func271, Tryz.ntmps271
  go_wp2
  go_ret
  exact ⟨by simp, rfl⟩
def cmpI (x y : Int) : Int := if x < y then -1 else if y < x then 1 else 0
set_option maxHeartbeats 2000000 in
theorem compare_any (x y : Int) (w : World) : Calls Tryz.prog 257 #[.int .i64 x, .int .i64 y] w fun e w' => e = .returned (.int .i64 (cmpI x y)) ∧ w' = w := by
  have W1 := fun x w => isNaN_any x w
  by_cases h1 : x < y
  · have HR : Hid (cmpI x y = -1) := if_pos h1
    generalize cmpI x y = R at *
    go_enter Tryz.func257, Tryz.ntmps257
    go_wp2_with (
      go_at_call 271
      refine (W1 _ _).mono ?_
      rintro e w' ⟨rfl, rfl⟩)
    go_ret
    exact ⟨by rw [HR.out]; rfl, rfl⟩
  · by_cases h2 : y < x
    · have HR : Hid (cmpI x y = 1) := by show _ = _; unfold cmpI; rw [if_neg h1, if_pos h2]
      generalize cmpI x y = R at *
      go_enter Tryz.func257, Tryz.ntmps257
      go_wp2_with (
        go_at_call 271
        refine (W1 _ _).mono ?_
        rintro e w' ⟨rfl, rfl⟩)
      go_ret
      exact ⟨by rw [HR.out]; rfl, rfl⟩
    · have HR : Hid (cmpI x y = 0) := by show _ = _; unfold cmpI; rw [if_neg h1, if_neg h2]
      generalize cmpI x y = R at *
      go_enter Tryz.func257, Tryz.ntmps257
      go_wp2_with (
        go_at_call 271
        refine (W1 _ _).mono ?_
        rintro e w' ⟨rfl, rfl⟩)
      go_ret
      exact ⟨by rw [HR.out]; rfl, rfl⟩
set_option maxHeartbeats 2000000 in
theorem begC_any (op n tj pl t : Int) (w : World) : Calls Tryz.prog 256 #[.agg #[.int .i64 op, .int .i64 n, .int .i64 tj, .int .i64 pl], .int .i64 t] w fun e w' => e = .returned (.int .i64 (cmpI pl t)) ∧ Below w.heap.size w w' := by
  have W1 := fun w => compare_any pl t w
  generalize cmpI pl t = R at *
  have HB : Hid (∀ o, Below w.heap.size w (w.alloc o)) := fun o => (Below.refl _ _).alloc (Nat.le_refl _) _
  go_enter Tryz.func256, Tryz.ntmps256
  go_wp2_with (
    go_at_call 257
    refine (W1 _).mono ?_
    rintro e w' ⟨rfl, rfl⟩)
  go_ret
  exact ⟨rfl, HB.out _⟩
/-- A row of instructions in memory, whatever their jumps come tw. -/
structure RowQ (w : World) (gi n : Nat) (fo fn ft fp : Nat → Int) : Prop where
  op : ∀ i, i < n → w.cell? ⟨gi, i * 4, none⟩ = some (.int .i64 (fo i))
  num : ∀ i, i < n → w.cell? ⟨gi, i * 4 + 1, none⟩ = some (.int .i64 (fn i))
  tos : ∀ i, i < n → w.cell? ⟨gi, i * 4 + 2, none⟩ = some (.int .i64 (ft i))
  pls : ∀ i, i < n → w.cell? ⟨gi, i * 4 + 3, none⟩ = some (.int .i64 (fp i))
theorem RowQ.below {w w' : World} {gi n : Nat} {fo fn ft fp : Nat → Int} (h : RowQ w gi n fo fn ft fp) (hb : Below w.heap.size w w') : RowQ w' gi n fo fn ft fp := by
  have hc : ∀ {o : Nat} {v : Value}, w.cell? ⟨gi, o, none⟩ = some v → w'.cell? ⟨gi, o, none⟩ = some v := fun {o v} e => by
    rw [hb.cell (World.block_lt_of_cell? w _ e)]; exact e
  exact ⟨fun i hi => hc (h.op i hi), fun i hi => hc (h.num i hi), fun i hi => hc (h.tos i hi), fun i hi => hc (h.pls i hi)⟩
/-- What the search answers. -/
def SearchAns (n : Nat) (fp : Nat → Int) (t : Int) (e : Ending) : Prop := ∃ i : Nat, i ≤ n ∧ e = .returned (.tuple #[.int .i64 i, .bool (decide (i < n ∧ fp i = t))]) ∧ (∀ j, j < i → fp j < t) ∧ ∀ j, i ≤ j → j < n → t ≤ fp j
set_option maxHeartbeats 4000000 in
theorem search_any {gi n cap : Nat} {fo fn ft fp : Nat → Int} {t : Int} {w : World} (h : RowQ w gi n fo fn ft fp) (hn : n ≤ 5000) (hs : ∀ i j, i < j → j < n → fp i < fp j) :
    Calls Tryz.prog 255 #[.slice (some ⟨gi, 0, none⟩) n cap, .int .i64 t, .func (.func 256) #[] #[]] w fun e w' => SearchAns n fp t e ∧ Below w.heap.size w w' := by
  have H : Hid _ := h
  have HS : Hid _ := hs
  have W1 := fun op n tj pl w => begC_any op n tj pl t w
  clear h hs
  go_enter Tryz.func255, Tryz.ntmps255
  go_wp2_with fail
  go_loopw [9, 10] (fun iv jv wr => ∃ i j : Nat, i ≤ j ∧ j ≤ n ∧ iv = .int .i64 i ∧ jv = .int .i64 j ∧ Hid (∀ q, q < i → fp q < t) ∧ Hid (∀ q, j ≤ q → q < n → t ≤ fp q) ∧ Hid (Below w.heap.size w wr)) (fun iv jv _ => (intOf jv).toNat - (intOf iv).toNat)
  case atStart => exact ⟨0, n, Nat.zero_le _, Nat.le_refl _, rfl, rfl, fun q hq => by omega, fun q h1 h2 => by omega, Below.refl _ _⟩
  case round =>
    obtain ⟨i, j, hij, hjn, rfl, rfl, HLo, HHi, HB⟩ := hrel
    have hr := H.out.below HB.out
    by_cases hlt : i < j
    · obtain ⟨m, hm⟩ : ∃ m : Nat, m = (i + j) / 2 := ⟨_, rfl⟩
      have hmi : i ≤ m ∧ m < j := by omega
      have c0 := hr.op m (by omega)
      have c1 := hr.num m (by omega)
      have c2 := hr.tos m (by omega)
      have c3 := hr.pls m (by omega)
      have hmn : (0 : Int) ≤ (m : Int) ∧ (m : Int) < (n : Int) := by omega
      have hmd : ((i : Int) + j) / 2 = m := by omega
      clear hr hm
      go_wp2_with fail
      refine (W1 _ _ _ _ _).mono ?_
      rintro e w2 ⟨rfl, hb2⟩
      have HB2 : Hid (Below w.heap.size w w2) := HB.out.trans (hb2.mono HB.out.size)
      by_cases hc : fp m < t
      · have hcm : cmpI (fp m) t = -1 := if_pos hc
        rw [hcm]
        have HC : Hid _ := hc
        clear hb2 hc hcm W1 c0 c1 c2 c3
        go_wp2
        go_roundw
        case rel =>
          refine ⟨m + 1, j, by omega, hjn, by go_num, rfl, fun q hq => ?_, HHi.out, HB2.out⟩
          by_cases e : q = m
          · subst e; exact HC.out
          · have := HS.out q m (by omega) (by omega); have := HC.out; omega
        case measure => simp [intOf]; omega
      · have hcm : 0 ≤ cmpI (fp m) t := by unfold cmpI; rw [if_neg hc]; split <;> omega
        have hcm2 : ¬ (cmpI (fp m) t < 0) := by omega
        generalize cmpI (fp m) t = z at *
        have HC : Hid _ := hc
        clear hb2 hc W1 c0 c1 c2 c3
        go_wp2
        go_roundw
        case rel =>
          refine ⟨i, m, by omega, by omega, rfl, rfl, HLo.out, fun q h1 h2 => ?_, HB2.out⟩
          have hc : ¬ fp m < t := HC.out
          by_cases e : q = m
          · subst e; omega
          · have := HS.out m q (by omega) h2; omega
        case measure => simp [intOf]; omega
    · obtain rfl : i = j := by omega
      have HA : Hid (∀ r : Bool, r = decide (i < n ∧ fp i = t) → SearchAns n fp t (.returned (.tuple #[.int .i64 i, .bool r]))) := fun r hr => ⟨i, hjn, by rw [hr], HLo.out, HHi.out⟩
      by_cases hin : i < n
      · have c0 := hr.op i hin
        have c1 := hr.num i hin
        have c2 := hr.tos i hin
        have c3 := hr.pls i hin
        have hib : (0 : Int) ≤ (i : Int) ∧ (i : Int) < (n : Int) := by omega
        clear hr
        go_wp2_with fail
        refine (W1 _ _ _ _ _).mono ?_
        rintro e w2 ⟨rfl, hb2⟩
        have HB2 : Hid (Below w.heap.size w w2) := HB.out.trans (hb2.mono HB.out.size)
        by_cases hc : fp i = t
        · have hcm : cmpI (fp i) t = 0 := by unfold cmpI; rw [if_neg (by omega), if_neg (by omega)]
          rw [hcm]
          have HR : Hid (true = decide (i < n ∧ fp i = t)) := (decide_eq_true ⟨hin, hc⟩).symm
          clear hb2 hc hcm W1 c0 c1 c2 c3
          go_wp2
          go_ret2
          exact ⟨HA.out _ HR.out, HB2.out⟩
        · have hcm : (cmpI (fp i) t == 0) = false := by
            have : cmpI (fp i) t ≠ 0 := by unfold cmpI; split <;> first | omega | (split <;> omega)
            simpa using this
          have HR : Hid (false = decide (i < n ∧ fp i = t)) := (decide_eq_false (fun h => hc h.2)).symm
          generalize cmpI (fp i) t = z at *
          clear hb2 hc W1 c0 c1 c2 c3
          go_wp2
          go_ret2
          exact ⟨HA.out _ HR.out, HB2.out⟩
      · have HR : Hid (false = decide (i < n ∧ fp i = t)) := (decide_eq_false (fun h => hin h.1)).symm
        clear hr
        go_wp2
        go_ret2
        exact ⟨HA.out _ HR.out, HB.out⟩
set_option maxHeartbeats 2000000 in
theorem beginning_any {cp gi n cap : Nat} {fo fn ft fp : Nat → Int} {t : Int} {w : World} (hc : w.cell? ⟨cp, 1, none⟩ = some (.slice (some ⟨gi, 0, none⟩) n cap)) (h : RowQ w gi n fo fn ft fp) (hn : n ≤ 5000) (hs : ∀ i j, i < j → j < n → fp i < fp j) :
    Calls Tryz.prog 230 #[.pointer (some ⟨cp, 0, none⟩), .int .i64 t] w fun e w' => SearchAns n fp t e ∧ Below w.heap.size w w' := by
  have W1 := search_any (cap := cap) (t := t) h hn hs
  clear h hs
  go_enter Tryz.func230, Tryz.ntmps230
  go_wp2_with fail
  refine W1.mono ?_
  rintro e w2 ⟨⟨i, hi, rfl, h1, h2⟩, hb⟩
  have HA : Hid (SearchAns n fp t (.returned (.tuple #[.int .i64 i, .bool (decide (i < n ∧ fp i = t))])) ∧ Below w.heap.size w w2) := ⟨⟨i, hi, rfl, h1, h2⟩, hb⟩
  clear h1 h2 hb W1
  generalize decide (i < n ∧ fp i = t) = r at *
  go_wp2
  go_ret2
  exact HA.out
end Go.Proofs.YtfkdailfcmnjlaaGreatDoor
