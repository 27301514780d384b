/-
  The program's types: every condition. The program's types: every condition, as the plain reading says. The program's types: a whole policy. What is known of the words of a text. The program's function 'Read' answers as the plain reading does. Every Check of the program is the document's.
-/
import Derived.Test.YtfkdailfcmnjlaaGreatDoorCompiles01
import Derived.Test.YtfkdailfcmnjlaaGreatDoorCompiles02
import Derived.Test.YtfkdailfcmnjlaaGreatDoorCompiles04
import Derived.Test.YtfkdailfcmnjlaaGreatDoorCompiles05
import Derived.Test.YtfkdailfcmnjlaaGreatDoorCompiles06
import Derived.Test.YtfkdailfcmnjlaaGreatDoorCompiles07
import Derived.Test.YtfkdailfcmnjlaaGreatDoorCompiles08
import Derived.Test.YtfkdailfcmnjlaaGreatDoorCompiles09
import Derived.Test.YtfkdailfcmnjlaaGreatDoorCompiles10
import Derived.Test.YtfkdailfcmnjlaaGreatDoorCompiles11
import Derived.Test.YtfkdailfcmnjlaaGreatDoorCompiles12
import Derived.Test.YtfkdailfcmnjlaaGreatDoorCompiles13
import Derived.Test.YtfkdailfcmnjlaaGreatDoorCompiles14
import Derived.Test.YtfkdailfcmnjlaaGreatDoorCompiles15
import Derived.Test.YtfkdailfcmnjlaaGreatDoorCompiles16
import Derived.Test.YtfkdailfcmnjlaaGreatDoorCompiles17
import Derived.Test.YtfkdailfcmnjlaaGreatDoorCompiles18
import Derived.Test.YtfkdailfcmnjlaaGreatDoorCompiles19
import Derived.Test.YtfkdailfcmnjlaaGreatDoorCompiles20
import Derived.Test.YtfkdailfcmnjlaaGreatDoorCompiles21
import Derived.Test.YtfkdailfcmnjlaaGreatDoorCompiles22
import Derived.Test.YtfkdailfcmnjlaaGreatDoorCompiles23
import Derived.Test.YtfkdailfcmnjlaaGreatDoorCompiles24
import Derived.Test.YtfkdailfcmnjlaaGreatDoorLays
import Derived.Deep.OwnRows
import Derived.WalkKit
import Derived.Deep.QuietTactic
import Derived.BigQuiet
import Derived.WalkSpells
import GoSem.Op.String
import Derived.Deep.AppendLies
import Derived.Deep.RegionHeld3
import Derived.Deep.DrawnRows
import Derived.Deep.RegionHeldLaw
import Derived.Deep.RegionLaw
import Derived.Lib.ParseIntBCases
set_option linter.unusedVariables false
set_option linter.unusedSimpArgs false
namespace Go.Proofs.YtfkdailfcmnjlaaGreatDoor
open Go Go.RowKit
set_option maxRecDepth 100000
attribute [local go_sem ↓] Go.wp_at_zero Go.wp_at_succ
variable {bs : Nat}

set_option maxHeartbeats 4000000 in
theorem typeOf_leaf {L : List Pt} {N : Tok → Int → Prop} {i b n cap : Nat} {a : Option Addr} {w : World} (hC : CondS bs L N w i b) (ho : (L.getD i noPt).tok.k ≠ 111) (hs : (L.getD i noPt).subs = []) :
    Calls Tryz.prog 111 #[.pointer (some ⟨b, 0, none⟩), .slice a n cap] w fun e w' => e = .returned (.int .i64 (wordK (kindOf (L.getD i noPt).tok))) ∧ Below w.heap.size w w' := by
  obtain ⟨u, n, bl, hi, hlo, hn, hb, hu, hs'⟩ := hC.inv
  obtain ⟨⟨c0, c1, c2, c3, c4, c5⟩, cf⟩ := cd_cells hb
  have hk3 : ((kindOf (L.getD i noPt).tok : Int) == (2 : Int)) = false := by
    have : ¬ ((kindOf (L.getD i noPt).tok : Int) = 2) := fun e => ho (kind_two.1 (by omega))
    simpa using this
  have hu0 : u = .slice none 0 0 := by
    rw [hs] at hu; rcases hu with hu | hu
    · exact hu.2
    · simp at hu
  subst hu0
  have HI := typeOfWord_any (kindOf (L.getD i noPt).tok) w (kind_le _)
  clear hb hu hs' hn hs ho
  generalize wordK (kindOf (L.getD i noPt).tok) = r at *
  generalize kindOf (L.getD i noPt).tok = kd at *
  go_enter Tryz.func111, Tryz.ntmps111
  go_wp2_with fail
  refine HI.mono ?_
  rintro e w' ⟨rfl, rfl⟩
  clear HI
  go_wp2_with fail
  go_ret
  exact ⟨rfl, Below.refl _ _⟩

theorem info_type : (Tryz.prog.info? 220).map (fun i => (i.zero, i.size, i.bytes)) = some (some (.int .i64 0), 1, 8) := by kernel_rfl
set_option maxHeartbeats 4000000 in
theorem typeOf_over {L : List Pt} {N : Tok → Int → Prop} {i b m cap : Nat} {a : Option Addr} {w : World} (F : Nat → Nat) (hF : ∀ j, F j ≤ 3) (hC : CondS bs L N w i b) (ho : (L.getD i noPt).tok.k ≠ 111) (hsh : Shape (L.getD i noPt)) (hn0 : (L.getD i noPt).subs ≠ [])
    (hI : ∀ j ∈ (L.getD i noPt).subs, ∀ (bj : Nat) (w1 : World), CondS bs L N w1 j bj → Below w.heap.size w w1 → Calls Tryz.prog 111 #[.pointer (some ⟨bj, 0, none⟩), .slice a m cap] w1 fun e w' => e = .returned (.int .i64 (F j)) ∧ Below w1.heap.size w1 w') :
    Calls Tryz.prog 111 #[.pointer (some ⟨b, 0, none⟩), .slice a m cap] w fun e w' => e = .returned (.int .i64 (if ((L.getD i noPt).subs.map F).contains 0 then 0 else overK (kindOf (L.getD i noPt).tok) ((L.getD i noPt).subs.map F) : Nat)) ∧ Below w.heap.size w w' := by
  obtain ⟨u, n, bl, hi, hlo, hn, hb, hu, hs⟩ := hC.inv
  obtain ⟨⟨c0, c1, c2, c3, c4, c5⟩, cf⟩ := cd_cells hb
  have hk3 : ((kindOf (L.getD i noPt).tok : Int) == (2 : Int)) = false := by
    have : ¬ ((kindOf (L.getD i noPt).tok : Int) = 2) := fun e => ho (kind_two.1 (by omega))
    simpa using this
  obtain ⟨hkk, hk14⟩ := shape_kind hsh hn0
  have hn3 : (L.getD i noPt).subs.length ≤ 3 := by
    rcases hsh with ⟨_, h1⟩ | ⟨_, h1⟩ | ⟨_, h1⟩ | ⟨m, _, _, h1⟩
    · rw [h1]; simp
    all_goals omega
  have hn1 : 0 < (L.getD i noPt).subs.length := List.length_pos_iff.2 hn0
  have hn2 : ¬ (L.getD i noPt).subs.length = 0 := by omega
  obtain ⟨au, rfl, ha⟩ := hu.slice
  obtain ⟨g, rfl, hg⟩ := ha 0 hn1
  have HI : Hid _ := hI
  have HS : Hid _ := hs
  have HG : Hid _ := hg
  have HKK : Hid _ := hkk
  have HK14 : Hid _ := hk14
  clear hb hu hs hn ho hI ha hg hsh hn0 hkk hk14
  generalize kindOf (L.getD i noPt).tok = kd at *
  generalize (L.getD i noPt).subs = js at *
  have hmk := run_make_row' (P := Tryz.prog) 219 220 (.int .i64 0) 8 Tryz.underlying219 info_type rfl .i64 .i64 js.length (by omega) (by omega)
  generalize hr : (if (js.map F).contains 0 = true then 0 else overK kd (js.map F)) = r at *
  have HR : Hid _ := hr
  clear hr
  have n4 := World.new_ne w _ c4
  have hmade : ∀ j, j < js.length → (w.alloc (.cells (madeCells #[.int .i64 0] js.length) 220)).cell? ⟨w.heap.size, j, none⟩ = some (.int .i64 0) := fun j hj => by
    rw [cell_of_row _ _ j _ _ _ (heap_alloc_new w _)]
    rw [← Array.getElem?_toList, toList_madeCells_one]; simp [hj]
  have hblk : ∃ cs, (w.alloc (.cells (madeCells #[.int .i64 0] js.length) 220)).heap[w.heap.size]? = some (.cells cs 220 (0, 0)) := ⟨_, heap_alloc_new w _⟩
  have hbw0 : Below w.heap.size w (w.alloc (.cells (madeCells #[.int .i64 0] js.length) 220)) := (Below.refl _ _).alloc (Nat.le_refl _) _
  have c4' : (w.alloc (.cells (madeCells #[.int .i64 0] js.length) 220)).cell? ⟨b, 4, none⟩ = _ := (hbw0.cell (p := ⟨b, 4, none⟩) (World.block_lt_of_cell? w _ c4)).trans c4
  have HM : Hid _ := hmade
  have HB : Hid _ := hblk
  have HB0 : Hid _ := hbw0
  clear hmade hblk hbw0
  go_enter Tryz.func111, Tryz.ntmps111
  go_wp2_with fail
  generalize hgu : w.heap.size = gu at *
  generalize w.alloc (.cells (madeCells #[.int .i64 0] js.length) 220) = wz at *
  have HGU : Hid _ := hgu
  clear hgu
  go_loopw [44] (fun kv wr => ∃ k, k ≤ js.length ∧ kv = .int .i64 k ∧ Hid (∃ cs, wr.heap[gu]? = some (.cells cs 220 (0, 0))) ∧ Hid (∀ j, j < js.length → wr.cell? ⟨gu, j, none⟩ = some (.int .i64 (if j < k then F (js.getD j 0) else 0 : Nat))) ∧ Below gu w wr) (fun kv _ => js.length - (intOf kv).toNat)
  case atStart => exact ⟨0, Nat.zero_le _, rfl, HB.out, fun j hj => by simpa using HM.out j hj, HB0.out⟩
  case round =>
    obtain ⟨k, hk, rfl, HBK, HCL, hbw⟩ := hrel
    by_cases hlt : k < js.length
    · have hg' : wr.heap[g]? = _ := (hbw.block g (by rw [← HGU.out]; exact lt_of_get HG.out)).trans HG.out
      have hcell := under_cell hg' k hlt
      have hmem : js.getD k 0 ∈ js := by rw [List.getD_eq_getElem?_getD, List.getElem?_eq_getElem hlt]; exact List.getElem_mem hlt
      have hbw' : Below w.heap.size w wr := by rw [HGU.out]; exact hbw
      have W1 := HI.out (js.getD k 0) hmem (bl k) wr ((HS.out k hlt).grow hbw') hbw
      clear hg' hmem hbw'
      have hF3 := hF (js.getD k 0)
      generalize hfx : F (js.getD k 0) = fx at W1 hF3
      have HFX : Hid _ := hfx
      clear hfx
      go_wp2_with fail
      refine W1.mono ?_
      rintro e w1 ⟨rfl, hb1⟩
      clear W1
      obtain ⟨cs, hcs⟩ := HBK.out
      have hlg := lt_of_get hcs
      have hcs1 : w1.heap[gu]? = some (.cells cs 220 (0, 0)) := (hb1.block _ hlg).trans hcs
      have hcl1 : ∀ j, j < js.length → w1.cell? ⟨gu, j, none⟩ = some (.int .i64 (if j < k then F (js.getD j 0) else 0 : Nat)) := fun j hj => by
        rw [hb1.cell (p := ⟨gu, j, none⟩) hlg]; exact HCL.out j hj
      have hck := hcl1 k hlt
      have hfz : ∀ j, w1.frozen? ⟨gu, j, none⟩ = false := fun j => by simp [World.frozen?, hcs1]
      have HCL1 : Hid _ := hcl1
      have HCS1 : Hid _ := hcs1
      have hbw1 : Below gu w w1 := hbw.trans (hb1.mono (by rw [← HGU.out]; exact hbw.size))
      clear hcl1 hcs1 hcs
      go_wp2_with fail
      go_roundw
      case rel =>
        refine ⟨k + 1, by omega, by simp, ⟨_, heap_setCell_same _ _ _ _ _ _ HCS1.out⟩, fun j hj => ?_, ?_⟩
        · by_cases e : j = k
          · subst e
            rw [World.cell?_setCell_same' w1 ⟨gu, j, none⟩ _ (by rw [HCL1.out j hj]; rfl), if_pos (by omega), HFX.out]
          · have h1 := HCL1.out j hj
            rw [World.cell?_setCell_other (w := w1) (a := ⟨gu, k, none⟩) (b := ⟨gu, j, none⟩) (h := by intro h; injection h with _ h2; omega), h1]
            simp only [show (j < k + 1) = (j < k) from propext (by omega)]
        · exact hbw1.setCell (Nat.le_refl _) _
      case measure => simp [intOf]; omega
    · have hke : k = js.length := by omega
      subst hke
      have hcl : ∀ j, j < (js.map F).length → wr.cell? ⟨gu, j, none⟩ = some (.int .i64 ((js.map F).getD j 0)) ∧ (js.map F).getD j 0 ≤ 100 := fun j hj => by
        have hj' : j < js.length := by simpa using hj
        have h1 := HCL.out j hj'
        rw [if_pos hj'] at h1
        have e : (js.map F).getD j 0 = F (js.getD j 0) := by simp [List.getD_eq_getElem?_getD, hj']
        rw [e]; exact ⟨h1, by have := hF (js.getD j 0); omega⟩
      have W1 := tyContains_any (js.map F) 0 gu js.length wr (by simp; omega) (fun j hj => (hcl j hj).1)
      have W2 := typeOver_any kd (js.map F) gu wr (by simpa using hn3) (by simpa using hn1) HKK.out (fun _ => trivial) (by simpa using HK14.out) hcl
      simp only [List.length_map] at W1 W2
      have HBW : Hid _ := hbw
      have c0' : wr.cell? ⟨b, 0, none⟩ = _ := (hbw.cell (p := ⟨b, 0, none⟩) (by rw [← HGU.out]; exact World.block_lt_of_cell? w _ c0)).trans c0
      clear hcl HCL HBK hbw
      generalize overK kd (js.map F) = ov at *
      cases hct : (js.map F).contains 0 with
      | true =>
        rw [hct] at W1
        have HE : Hid (r = 0) := by show _ = _; rw [← HR.out, hct, if_pos rfl]
        clear W2 HR hct
        go_wp2_with fail
        refine W1.mono ?_
        rintro e w' ⟨rfl, rfl⟩
        clear W1
        go_wp2_with fail
        go_ret
        exact ⟨ret_int (by rw [HE.out]; rfl), by rw [HGU.out]; exact HBW.out⟩
      | false =>
        rw [hct] at W1
        have HE : Hid (r = ov) := by show _ = _; rw [← HR.out, hct]; rfl
        clear HR hct
        go_wp2_with fail
        refine W1.mono ?_
        rintro e w' ⟨rfl, rfl⟩
        clear W1
        go_wp2_with fail
        refine W2.mono ?_
        rintro e w2 ⟨rfl, hb2⟩
        clear W2
        go_wp2_with fail
        go_ret
        exact ⟨ret_int (by rw [HE.out]), by rw [HGU.out]; exact HBW.out.trans (hb2.mono (by rw [← HGU.out]; exact HBW.out.size))⟩
end Go.Proofs.YtfkdailfcmnjlaaGreatDoor

namespace Go.Proofs.YtfkdailfcmnjlaaGreatDoor
open Go Go.RowKit
set_option maxRecDepth 100000
variable {bs : Nat}

theorem contains_tcode {js : List Nat} {F : Nat → UInt8} (hF : ∀ j ∈ js, F j = 0 ∨ isTy (F j)) : (js.map fun j => tcode (F j)).contains 0 = (js.map F).contains 0 := by
  rw [Bool.eq_iff_iff, List.contains_iff_mem, List.contains_iff_mem, List.mem_map, List.mem_map]
  constructor
  · rintro ⟨j, hj, e⟩; exact ⟨j, hj, (tcode_zero (hF j hj)).1 e⟩
  · rintro ⟨j, hj, e⟩; exact ⟨j, hj, (tcode_zero (hF j hj)).2 e⟩
theorem tcode_nil : tcode 0 = 0 := by decide

theorem ptypeOf_any {L : List Pt} {xs : List Itm} {its : List UInt8} (hW : ∀ k, k < L.length → TokW (L.getD k noPt).tok) (hits : ∀ c ∈ its, isTy c) (hle : its.length ≤ xs.length) (hlx : xs.length ≤ 1001) (f : Nat) : ∀ {lo i b cap : Nat} {a : Option Addr} {w : World}, TreeF f L lo i → Given xs its.length L lo (i + 1) → CondS bs L (N1 (idx (giv xs))) w i b → TyAt w a (letTys (xs.take its.length) its) →
    Calls Tryz.prog 111 #[.pointer (some ⟨b, 0, none⟩), .slice a (letTys (xs.take its.length) its).length cap] w fun e w' => e = .returned (.int .i64 (tcode (tyOf xs its L f i))) ∧ Below w.heap.size w w' := by
  have hll := letTys_len (xs.take its.length) its (by simp; omega)
  induction f with
  | zero => intro lo i b cap a w h; exact h.elim
  | succ f ih =>
    intro lo i b cap a w hT hG hC hS
    by_cases ho : (L.getD i noPt).tok.k = 111
    · obtain ⟨hne, h0⟩ := hG i hT.le (by omega) ho
      have hix : ¬ idx (giv (xs.take its.length)) (L.getD i noPt).tok.text < 0 := fun h => by have := (giv_ix _ hne xs its.length).1 h; omega
      have hke := giv_keep its.length (xs := xs) (s := (L.getD i noPt).tok.text) (by omega)
      have hlt : (idx (giv (xs.take its.length)) (L.getD i noPt).tok.text).toNat < (letTys (xs.take its.length) its).length := by
        rw [hll]
        rcases idx_le (giv (xs.take its.length)) (L.getD i noPt).tok.text with h | h
        · omega
        · rw [h] at hix; exact absurd (by simp [idx]) hix
      refine typeOf_own (its := its) hT hC hS ?_ ho (by rw [hke]; omega) (by rw [hke]; exact hlt) ?_
      · rw [hll]
        have := giv_len (xs.take its.length)
        simp at this; omega
      · rw [hke, letTys_at _ hne xs its hle h0, tyOf, shape_leaf hT.2.1 ho]
        have e : tyCase xs its (L.getD i noPt).tok ([].map (tyOf xs its L f)) = (its.getD (letIx xs (L.getD i noPt).tok.text its.length).toNat 0).toNat := by
          unfold tyCase; rw [if_neg (by omega), if_pos ho]
        rw [e, UInt8.ofNat_toNat]; rfl
    · by_cases hs : (L.getD i noPt).subs = []
      · have ha : alone (L.getD i noPt).tok = true := by
          rcases hT.2.1 with ⟨h1, _⟩ | ⟨_, h1⟩ | ⟨_, h1⟩ | ⟨n, _, _, h1⟩
          · exact h1
          all_goals (rw [hs] at h1; simp at h1)
        have h1 := (ty_leaf xs its (hW i hT.1) ha ho).1
        have e : tcode (tyOf xs its L (f + 1) i) = wordK (kindOf (L.getD i noPt).tok) := by
          rw [tyOf, hs, ← h1]; rfl
        rw [e]
        exact typeOf_leaf hC ho hs
      · have hsub := forest_bounds _ hT.2.2
        have hty : ∀ j ∈ (L.getD i noPt).subs, tyOf xs its L f j = 0 ∨ isTy (tyOf xs its L f j) := fun j hj => by
          obtain ⟨lo', h1, h2, h3⟩ := hsub j hj
          exact tyOf_ty hW hits f h3 (fun q a b => hG q (by omega) (by omega))
        have h1 := typeOf_over (a := a) (m := (letTys (xs.take its.length) its).length) (cap := cap) (fun j => tcode (tyOf xs its L f j)) (fun j => tcode_le _) hC ho hT.2.1 hs (fun j hj bj w1 hCj hb => by
          obtain ⟨lo', h1, h2, h3⟩ := hsub j hj
          exact ih h3 (fun q a b => hG q (by omega) (by omega)) hCj (hS.grow hb))
        have e : (if (((L.getD i noPt).subs.map fun j => tcode (tyOf xs its L f j)).contains 0) = true then 0 else overK (kindOf (L.getD i noPt).tok) ((L.getD i noPt).subs.map fun j => tcode (tyOf xs its L f j))) = tcode (tyOf xs its L (f + 1) i) := by
          rw [contains_tcode hty, tyOf]
          cases hc : ((L.getD i noPt).subs.map (tyOf xs its L f)).contains 0 with
          | true => rw [if_pos rfl, if_pos rfl]; exact tcode_nil.symm
          | false =>
            rw [if_neg (by simp), if_neg (by simp)]
            refine (ty_over hT.2.1 hs (F := tyOf xs its L f) fun j hj => ?_).1.symm
            rcases hty j hj with h0 | h0
            · exfalso
              have : ((L.getD i noPt).subs.map (tyOf xs its L f)).contains 0 = true := by rw [List.contains_iff_mem, ← h0]; exact List.mem_map_of_mem hj
              rw [hc] at this; simp at this
            · exact h0
        rw [e] at h1
        exact h1

/-- Where no name is wrong, each item's names are given. -/
theorem names_given {xs : List Itm} {L : List Pt} (hL : PartsOK L) {x : Itm} {r : List Itm} {fr i : Nat} (hT : Tree L fr x.top) (hp : x.top + 1 = x.parts) (h : namesAt xs L (x :: r) fr i = none) :
    Given xs i L fr (x.top + 1) ∧ namesAt xs L r x.parts (i + 1) = none := by
  have h1 := (TreeF.res (xs := xs) (n := i) hL.up hT.fit).1
  rw [names_item hL hT hp] at h
  by_cases hc : x.name ≠ [] ∧ 0 ≤ idx (giv (xs.take i)) x.name
  · rw [if_pos hc] at h; simp at h
  · rw [if_neg hc] at h
    cases hr : resF (badOf xs i) (x.top + 1) L x.top with
    | some p => rw [hr] at h; simp at h
    | none =>
      rw [hr] at h1 h
      refine ⟨fun q h2 h3 ho => ⟨hL.own q (by have := hT.fit.lt; omega) ho, (wrongAt_fine _ _ _ h1).2 q h2 (by have := hT.fit.le; omega) ho⟩, h⟩
theorem ptypes_step {xs : List Itm} {L : List Pt} {x : Itm} {r : List Itm} {its : List UInt8} {t : Nat} {c : UInt8} (hc : c = tyOf xs its L (x.top + 1) x.top) (ht : t = tcode c) (hty : c = 0 ∨ isTy c) :
    typesAt xs L (x :: r) its = if t = 0 ∨ (x.name = [] ∧ t ≠ 2) then some x.pl else typesAt xs L r (its ++ [c]) := by
  rw [typesAt, ← hc, ht]
  have h0 : c.toNat = 0 ↔ tcode c = 0 := by rcases hty with rfl | rfl | rfl | rfl <;> decide
  have h2 : c.toNat = 116 ↔ tcode c = 2 := by rcases hty with rfl | rfl | rfl | rfl <;> decide
  simp only [h0, ne_eq, h2]
end Go.Proofs.YtfkdailfcmnjlaaGreatDoor

namespace Go.Proofs.YtfkdailfcmnjlaaGreatDoor
open Go Go.RowKit
set_option maxRecDepth 100000
attribute [local go_sem ↓] Go.wp_at_zero Go.wp_at_succ
variable {bs : Nat}

/-- A row of numbers. -/
theorem ty_row {w : World} {base : Nat} {v : Value} {l : List Nat} (h : w.ownsRow base 220 1 v l.length (l.map fun (n : Nat) => Value.int .i64 n)) : ∃ a cap, v = .slice a l.length cap ∧ TyAt w a l := by
  obtain ⟨hl, h⟩ := h
  rcases h with ⟨rfl, h0⟩ | ⟨g, cap, cur, rfl, hb, hg, h1, h2, h3, h4⟩
  · exact ⟨none, 0, by rw [h0], fun k hk => by omega⟩
  · refine ⟨_, cap, rfl, fun k hk => ⟨g, rfl, ?_⟩⟩
    rw [cell_of_row w g k _ _ _ hg]
    have e1 : cur[k]? = (cur.toList.take (l.length * 1))[k]? := by
      rw [List.getElem?_take_of_lt (by omega)]; simp
    rw [e1, h4]
    simp [hk, List.getD_eq_getElem?_getD]

set_option maxHeartbeats 600000 in
theorem typed_any {L : List Pt} (hL : PartsOK L) (hW : ∀ k, k < L.length → TokW (L.getD k noPt).tok) {xs : List Itm} {ys : List (Tok × Tok × Nat × Int)} {base : Nat} {v : Value} {w : World} (hrow : w.ownsRow base 163 10 v ys.length (iCells ys)) (hy : ys.length ≤ 1001)
    (hit : ItemsAt (CondS bs L (N1 (idx (giv xs))) w) xs ys) (htr : TreesAt L xs 0) (hnm : namesAt xs L xs 0 0 = none) :
    Calls Tryz.prog 59 #[v] w fun e w' => e = .returned (plcV (typesAt xs L xs [])) ∧ Below w.heap.size w w' := by
  obtain ⟨a, cap, rfl, hcell⟩ := row_cells hrow
  obtain ⟨i0, hi, hz0, hz1, hz2⟩ := info_parts info_type
  have hlen : Hid _ := hit.len
  have hlx : Hid (xs.length ≤ 1001) := by show _ ≤ _; rw [← hit.len]; exact hy
  have HC : Hid _ := hcell
  have HT : Hid _ := hit
  have HTR : Hid _ := htr
  have HL : Hid _ := hL
  have HNM : Hid _ := hnm
  have HW : Hid _ := hW
  clear hrow hcell hit htr hL hnm hW
  go_enter Tryz.func59, Tryz.ntmps59
  go_wp2_with fail
  go_loopw [4, 10] (fun lv kv wr => ∃ k fr its, k ≤ ys.length ∧ kv = .int .i64 k ∧ Hid (typesAt xs L xs [] = typesAt xs L (xs.drop k) its) ∧ Hid (its.length = k ∧ ∀ c ∈ its, isTy c) ∧ Hid (namesAt xs L (xs.drop k) fr k = none) ∧ Hid (TreesAt L (xs.drop k) fr) ∧ Hid (ItemsAt (CondS bs L (N1 (idx (giv xs))) w) (xs.drop k) (ys.drop k)) ∧ wr.ownsRow w.heap.size 220 1 lv (letTys (xs.take k) its).length ((letTys (xs.take k) its).map fun (n : Nat) => Value.int .i64 n) ∧ Below w.heap.size w wr) (fun _ kv _ => ys.length - (intOf kv).toNat)
  case atStart => exact ⟨0, 0, [], Nat.zero_le _, rfl, rfl, ⟨rfl, by simp⟩, HNM.out, HTR.out, HT.out, World.ownsRow_nil _ _ _ _, Below.refl _ _⟩
  case round =>
    obtain ⟨k, fr, its, hk, rfl, HM, HIS, HNM2, HTR2, HIT2, hown, hbw⟩ := hrel
    by_cases hlt : k < ys.length
    · have hltx : k < xs.length := by rw [← hlen.out]; exact hlt
      obtain ⟨hisl, hisy⟩ := HIS.out
      have hll := letTys_len (xs.take k) its (by rw [hisl]; simp; omega)
      have hgl := giv_len (xs.take k)
      have hgl2 : (letTys (xs.take k) its).length ≤ k := by rw [hll]; exact Nat.le_trans hgl (by simp; omega)
      clear hll hgl
      have ht2 := HTR2.out
      have hi2 := HIT2.out
      have hn2 := HNM2.out
      rw [drop_head hltx noItm] at ht2 hi2 hn2
      rw [drop_head hltx noItm] at HM
      rw [drop_head hlt (zTok, zTok, 0, 0)] at hi2
      obtain ⟨g, rfl, ⟨gcs, hgc⟩, hcells⟩ := HC.out k hlt
      have HTX : Hid _ := take_snoc hltx noItm
      generalize xs.getD k noItm = x at *
      generalize ys.getD k (zTok, zTok, 0, 0) = y at *
      obtain ⟨⟨hCd, hO⟩, hi2⟩ := hi2
      obtain ⟨hTr, hpt, ht2⟩ := ht2
      obtain ⟨hgv, hn2⟩ := names_given HL.out hTr hpt hn2
      obtain ⟨t0, u0, b, wh⟩ := y
      simp only [] at hCd hO
      have hct : ∀ j, j < 10 → wr.cell? ⟨g, k * 10 + j, none⟩ = (icell (t0, u0, b, wh))[j]? := fun j hj => by
        rw [hbw.cell (p := ⟨g, k * 10 + j, none⟩) (lt_of_get hgc)]; exact hcells j hj
      have c0 := hct 0 (by omega)
      have c1 := hct 1 (by omega)
      have c2 := hct 2 (by omega)
      have c3 := hct 3 (by omega)
      have c4 := hct 4 (by omega)
      have c5 := hct 5 (by omega)
      have c6 := hct 6 (by omega)
      have c7 := hct 7 (by omega)
      have c8 := hct 8 (by omega)
      have c9 := hct 9 (by omega)
      simp [icell] at c0 c1 c2 c3 c4 c5 c6 c7 c8 c9
      have hTF := hTr.fit
      obtain ⟨al, capl, rfl, hSt⟩ := ty_row hown
      have hb0 : Below wr.heap.size wr (wr.alloc (.cells #[.int .i64 (kindOf t0), .int .i64 t0.pl, .int .i64 (nmOf t0), S (ownOf t0), .int .i64 (kindOf u0), .int .i64 u0.pl, .int .i64 (nmOf u0), S (ownOf u0), .int .i64 wh, .pointer (some ⟨b, 0, none⟩)] 163 (0, 0))) := (Below.refl _ _).alloc (Nat.le_refl _) _
      have hbw0 : Below w.heap.size w (wr.alloc (.cells #[.int .i64 (kindOf t0), .int .i64 t0.pl, .int .i64 (nmOf t0), S (ownOf t0), .int .i64 (kindOf u0), .int .i64 u0.pl, .int .i64 (nmOf u0), S (ownOf u0), .int .i64 wh, .pointer (some ⟨b, 0, none⟩)] 163 (0, 0))) := hbw.alloc hbw.size _
      have hgv' : Given xs its.length L fr (x.top + 1) := by rw [hisl]; exact hgv
      have hSt' : TyAt (wr.alloc (.cells #[.int .i64 (kindOf t0), .int .i64 t0.pl, .int .i64 (nmOf t0), S (ownOf t0), .int .i64 (kindOf u0), .int .i64 u0.pl, .int .i64 (nmOf u0), S (ownOf u0), .int .i64 wh, .pointer (some ⟨b, 0, none⟩)] 163 (0, 0))) al (letTys (xs.take its.length) its) := by rw [hisl]; exact hSt.grow hb0
      have W1 := ptypeOf_any (cap := capl) HW.out hisy (by rw [hisl]; omega) hlx.out (x.top + 1) hTF hgv' (hCd.grow hbw0) hSt'
      rw [hisl] at W1
      have hty := tyOf_ty (xs := xs) HW.out hisy (x.top + 1) hTF hgv'
      have HST : Hid _ := ptypes_step (r := xs.drop (k + 1)) rfl rfl hty
      have htc := tcode_le (tyOf xs its L (x.top + 1) x.top)
      have hty2 : Hid (tcode (tyOf xs its L (x.top + 1) x.top) ≠ 0 → isTy (tyOf xs its L (x.top + 1) x.top)) := fun h => by
        rcases hty with h0 | h0
        · exact absurd (by rw [h0]; decide) h
        · exact h0
      have hown0 := ownsRow_below hown hb0
      have hz0' : (wr.alloc (.cells #[.int .i64 (kindOf t0), .int .i64 t0.pl, .int .i64 (nmOf t0), S (ownOf t0), .int .i64 (kindOf u0), .int .i64 u0.pl, .int .i64 (nmOf u0), S (ownOf u0), .int .i64 wh, .pointer (some ⟨b, 0, none⟩)] 163 (0, 0))).heap[wr.heap.size]? = _ := heap_alloc_new wr _
      have HTR3 : Hid _ := ht2
      have HIT3 : Hid _ := hi2
      have HNM3 : Hid _ := hn2
      have hFw : Hid _ := hbw0
      have hOwn : Hid _ := hown0
      have HIL : Hid _ := hisl
      have HIY : Hid _ := hisy
      unfold ItOf at hO
      have hp1 : t0.pl = x.pl := by rcases hO with hO | hO <;> exact hO.2.2.1
      have hp0' : Hid _ := hp1
      clear hp1 hTr hTF hCd ht2 hi2 hct hcells hSt hbw hown hb0 hbw0 hgc HTR2 HIT2 HNM2 hown0 HTR HT HNM hgv hgv' hSt' hty hisl hisy hn2 HIS
      generalize hkd0 : kindOf t0 = kd at *
      generalize u0.pl = m5 at *
      generalize ownOf u0 = s7 at *
      generalize t0.pl = p0 at *
      generalize nmOf t0 = m2 at *
      generalize ownOf t0 = s3 at *
      generalize kindOf u0 = m4 at *
      generalize nmOf u0 = m6 at *
      generalize htyc : tyOf xs its L (x.top + 1) x.top = tc at *
      clear htyc
      generalize htt : tcode tc = tt at *
      have HTT : Hid _ := htt
      clear htt
      generalize hlts : letTys (xs.take k) its = lts at *
      have HLT : Hid _ := hlts
      clear hlts
      rcases hO with hO | hO
      · have hkd : kd = 11 := hO.2.1
        subst hkd
        have HNE : Hid _ := hO.1
        skip
        clear hO hkd0
        go_wp2_with fail
        refine W1.mono ?_
        rintro e w1 ⟨rfl, hb1⟩
        clear W1 c0 c1 c2 c3 c4 c5 c6 c7 c8 c9
        have hz1' : w1.heap[wr.heap.size]? = _ := (hb1.block _ (lt_of_get hz0')).trans hz0'
        have hBw : Hid _ := hFw.out.trans (hb1.mono hFw.out.size)
        have hown1 := ownsRow_below hOwn.out hb1
        have hs1 := hBw.out.size
        obtain ⟨⟨z0, z1, z2, z3, z4, z5, z6, z7, z8, z9⟩, zf⟩ := it_cells hz1'
        clear hz1' hz0' hb1 hFw hOwn
        generalize wr.heap.size = bi at *
        by_cases h0 : tt = 0
        · subst h0
          go_wp2_with fail
          refine bodyPost_ret (v := .tuple #[.int .i64 p0, .bool false]) (by simp [results, Tryz.results59, go_sem]) rfl ⟨?_, hBw.out⟩
          rw [HM.out, HST.out, if_pos (by simp), ← hp0'.out]; rfl
        · have h02 : ((tt : Int) == (0 : Int)) = false := by
            have : ¬ ((tt : Int) = 0) := by omega
            simpa using this
          have H0 : Hid _ := h0
          clear h0
          go_wp2_with (
            at_builtin
            go_must (refine wpList_append_lies _ (by rfl) _ _ 219 (by rfl) w.heap.size 220 i0 (.int .i64 0) 1 8 Tryz.underlying219 hi hz0 hz1 hz2 (by rfl) (by decide) _ _ _ (by rfl) (hown1.alloc _) ⟨w1.heap.size, 0, none⟩ 1 1 [.int .i64 tt] (by rfl) (by rfl) (World.news_of_block (heap_alloc_new w1 _)) (fun x hx => by simp at hx; rcases hx with rfl; rfl) (by decide) (by unfold maxLen; omega) (by omega) (by simp; omega) _ rfl ?_)
            intro g3 cap3 w3 hown3 hgrow3 hat hlt3)
          refine ⟨⟨k + 1, x.parts, its ++ [tc], by omega, by simp, ?_, ⟨by simp [HIL.out], ?_⟩, HNM3.out, HTR3.out, HIT3.out, ?_, below_far1 hBw.out hown1 hgrow3⟩, by simp [intOf]; omega⟩
          · show _ = _
            rw [HM.out, HST.out, if_neg (fun e => by rcases e with e | e; exact H0.out e; exact HNE.out e.1)]
          · intro c hc
            simp at hc
            rcases hc with hc | rfl
            · exact HIY.out c hc
            · exact hty2.out H0.out
          · have e : letTys (xs.take (k + 1)) (its ++ [tc]) = lts ++ [tt] := by
              rw [HTX.out, letTys_snoc _ _ _ _ (by rw [HIL.out]; simp; omega), if_neg HNE.out, HLT.out, HTT.out]
            rw [e]; simpa using hown3
      · have hkd : ((kd : Int) == (11 : Int)) = false := by
          have h1 := hO.2.1
          have : ¬ ((kd : Int) = 11) := by split at h1 <;> omega
          simpa using this
        have HNE : Hid _ := hO.1
        have hkd2 : ((kd : Int) != (11 : Int)) = true := by simpa using hkd
        clear hO hkd0
        go_wp2_with fail
        refine W1.mono ?_
        rintro e w1 ⟨rfl, hb1⟩
        clear W1 c0 c1 c2 c3 c4 c5 c6 c7 c8 c9
        have hz1' : w1.heap[wr.heap.size]? = _ := (hb1.block _ (lt_of_get hz0')).trans hz0'
        have hBw : Hid _ := hFw.out.trans (hb1.mono hFw.out.size)
        have hown1 := ownsRow_below hOwn.out hb1
        have hs1 := hBw.out.size
        obtain ⟨⟨z0, z1, z2, z3, z4, z5, z6, z7, z8, z9⟩, zf⟩ := it_cells hz1'
        clear hz1' hz0' hb1 hFw hOwn
        generalize wr.heap.size = bi at *
        by_cases h0 : tt = 0
        · subst h0
          go_wp2_with fail
          refine bodyPost_ret (v := .tuple #[.int .i64 p0, .bool false]) (by simp [results, Tryz.results59, go_sem]) rfl ⟨?_, hBw.out⟩
          rw [HM.out, HST.out, if_pos (by simp), ← hp0'.out]; rfl
        · have h02 : ((tt : Int) == (0 : Int)) = false := by
            have : ¬ ((tt : Int) = 0) := by omega
            simpa using this
          have H0 : Hid _ := h0
          clear h0
          by_cases h2 : tt = 2
          · subst h2
            clear h02
            go_wp2_with fail
            refine ⟨⟨k + 1, x.parts, its ++ [tc], by omega, by simp, ?_, ⟨by simp [HIL.out], ?_⟩, HNM3.out, HTR3.out, HIT3.out, ?_, hBw.out⟩, by simp [intOf]; omega⟩
            · show _ = _
              rw [HM.out, HST.out, if_neg (fun e => by rcases e with e | e; exact absurd e (by decide); simp at e)]
            · intro c hc
              simp at hc
              rcases hc with hc | rfl
              · exact HIY.out c hc
              · exact hty2.out H0.out
            · have e : letTys (xs.take (k + 1)) (its ++ [tc]) = lts := by
                rw [HTX.out, letTys_snoc _ _ _ _ (by rw [HIL.out]; simp; omega), if_pos HNE.out, HLT.out]
              rw [e]; exact hown1
          · have h22 : ((tt : Int) == (2 : Int)) = false := by
              have : ¬ ((tt : Int) = 2) := by omega
              simpa using this
            have H2 : Hid _ := h2
            clear h2
            go_wp2_with fail
            refine bodyPost_ret (v := .tuple #[.int .i64 p0, .bool false]) (by simp [results, Tryz.results59, go_sem]) rfl ⟨?_, hBw.out⟩
            rw [HM.out, HST.out, if_pos (.inr ⟨HNE.out, H2.out⟩), ← hp0'.out]; rfl
    · have hke : k = ys.length := by omega
      subst hke
      have hm : Hid (typesAt xs L xs [] = none) := by
        have := HM.out
        rw [List.drop_of_length_le (by rw [hlen.out]; exact Nat.le_refl _)] at this
        exact this
      go_wp2_with fail
      refine bodyPost_ret (v := .tuple #[.int .i64 0, .bool true]) (by simp [results, Tryz.results59, go_sem]) rfl ⟨?_, hbw⟩
      rw [hm.out]; rfl
end Go.Proofs.YtfkdailfcmnjlaaGreatDoor

namespace Go.Proofs.YtfkdailfcmnjlaaGreatDoor
open Go Go.RowKit
set_option maxRecDepth 100000
variable {bs : Nat}

/-- What is known of words. -/
structure WordsOK (ts : List Tok) (a : Nat) : Prop where
  sorted : Sorted ts
  tokw : ∀ t ∈ ts, TokW t
  own : ∀ t ∈ ts, t.k = 111 → t.text ≠ []
  from_ : ∀ t ∈ ts, a ≤ t.pl
  pos : 0 < ts.length
  fin : kindOf (tokAt ts (ts.length - 1)) = 0

theorem tokAt_cons (t : Tok) (ts : List Tok) (n : Nat) : tokAt (t :: ts) (n + 1) = tokAt ts n := by unfold tokAt; simp
theorem tokAt_zero (t : Tok) (ts : List Tok) : tokAt (t :: ts) 0 = t := by unfold tokAt; simp

theorem lex_words (l : List UInt8) (f : Nat) : ∀ (a : Nat) (ts : List Tok), a ≤ l.length → l.length - a < f → lex f l a = (ts, none) → WordsOK ts a ∧ ts.length ≤ l.length - a + 1 := by
  induction f with
  | zero => intro a ts _ h; omega
  | succ f ih =>
    intro a ts ha hf h
    have h1 := stop_ge isB l a
    have h2 := stop_le isB l a ha
    rw [lex] at h
    by_cases he : l.length ≤ stop isB l a
    · rw [if_pos he] at h; simp at h; subst h
      refine ⟨⟨?_, ?_, ?_, ?_, by simp, by simp [tokAt, kindOf]⟩, by simp⟩
      · intro m n hm hn; simp at hn; omega
      · intro t ht; simp at ht; subst ht; exact .inr (.inr (.inl rfl))
      · intro t ht; simp at ht; subst ht; simp
      · intro t ht; simp at ht; subst ht; exact ha
    · rw [if_neg he] at h
      cases hw : wordAt l (stop isB l a) with
      | none => rw [hw] at h; simp at h
      | some t =>
        rw [hw] at h
        simp only [Prod.mk.injEq] at h
        obtain ⟨rfl, hn⟩ := h
        obtain ⟨w1, w2, w3, w4⟩ := wordAt_len (by omega) hw
        obtain ⟨i1, i2⟩ := ih (stop isB l a + t.text.length) (lex f l (stop isB l a + t.text.length)).1 (by omega) (by omega) (by rw [← hn])
        generalize (lex f l (stop isB l a + t.text.length)).1 = us at *
        have htail : ∀ n, n < us.length → stop isB l a + t.text.length ≤ (tokAt us n).pl := fun n hn => i1.from_ _ (tokAt_mem hn)
        refine ⟨⟨?_, ?_, ?_, ?_, by simp, ?_⟩, by simp; omega⟩
        · intro m n hm hn
          cases n with
          | zero => omega
          | succ n =>
            simp at hn
            rw [tokAt_cons]
            cases m with
            | zero => rw [tokAt_zero, w3]; have := htail n hn; omega
            | succ m => rw [tokAt_cons]; exact i1.sorted m n (by omega) hn
        · intro u hu; simp at hu; rcases hu with rfl | hu
          · exact lex_tokW l _ (by omega) _ hw
          · exact i1.tokw u hu
        · intro u hu; simp at hu; rcases hu with rfl | hu
          · intro _ e; rw [e] at w1; simp at w1
          · exact i1.own u hu
        · intro u hu; simp at hu; rcases hu with rfl | hu
          · omega
          · have := i1.from_ u hu; omega
        · have hp := i1.pos
          have e : (t :: us).length - 1 = (us.length - 1) + 1 := by simp; omega
          rw [e, tokAt_cons]; exact i1.fin

/-- A row of words, its cells. -/
theorem wrow_cells {w : World} {base g cap : Nat} {ts : List Tok} (hp : 0 < ts.length) (h : w.ownsRow base 160 4 (.slice (some ⟨g, 0, none⟩) ts.length cap) ts.length (wCells ts)) :
    (∃ cs, w.heap[g]? = some (.cells cs 160 (0, 0))) ∧ ∀ i, i < ts.length → w.cell? ⟨g, i * 4, none⟩ = some (.int .i64 (kindOf (tokAt ts i))) ∧ w.cell? ⟨g, i * 4 + 1, none⟩ = some (.int .i64 (tokAt ts i).pl) ∧ w.cell? ⟨g, i * 4 + 2, none⟩ = some (.int .i64 (nmOf (tokAt ts i))) ∧ w.cell? ⟨g, i * 4 + 3, none⟩ = some (S (ownOf (tokAt ts i))) := by
  obtain ⟨hl, h⟩ := h
  rcases h with ⟨h0, _⟩ | ⟨g', cap', cur, e, hb, hg, h1, h2, h3, h4⟩
  · simp at h0
  · simp only [Value.slice.injEq, Option.some.injEq, Addr.mk.injEq] at e
    obtain ⟨⟨rfl, _⟩, _, rfl⟩ := e
    refine ⟨⟨cur, hg⟩, fun i hi => ?_⟩
    have key : ∀ j, j < 4 → w.cell? ⟨g, i * 4 + j, none⟩ = (wcell (tokAt ts i))[j]? := fun j hj => by
      rw [cell_of_row w g (i * 4 + j) _ _ _ hg]
      have e1 : cur[i * 4 + j]? = (cur.toList.take (ts.length * 4))[i * 4 + j]? := by
        rw [List.getElem?_take_of_lt (by omega)]; simp
      rw [e1, h4]
      have : ∀ (ts : List Tok) (k : Nat), k < ts.length → (wCells ts)[k * 4 + j]? = (wcell (tokAt ts k))[j]? := by
        intro ts
        induction ts with
        | nil => intro k hk; simp at hk
        | cons y ys ih =>
          intro k hk
          have e2 : wCells (y :: ys) = wcell y ++ wCells ys := rfl
          have e3 : (wcell y).length = 4 := rfl
          cases k with
          | zero => rw [e2, List.getElem?_append_left (by omega), tokAt_zero]; simp
          | succ k =>
            rw [e2, List.getElem?_append_right (by omega), e3, show (k + 1) * 4 + j - 4 = k * 4 + j from by omega, ih k (by simpa using hk), tokAt_cons]
      exact this ts i hi
    exact ⟨key 0 (by omega), key 1 (by omega), key 2 (by omega), key 3 (by omega)⟩
/-- What is known of a text's parts and items. -/
theorem all_known {F g : Nat} {ts : List Tok} {R : AllR} (hw : WordsOK ts 0) (hl : ts.length ≤ 1001) (h : parseAll F ts g 0 [] [] = some R) (ok : R.ok = true) :
    TreesAt R.L R.xs 0 ∧ PartsOK R.L ∧ (∀ k, k < R.L.length → TokW (R.L.getD k noPt).tok) := by
  obtain ⟨h1, h2, h3, h4⟩ := parse_trees hw.sorted g 0 [] [] R rfl ⟨by simp, by simp, by simp⟩ (by simp) (by omega) h ok
  refine ⟨h1, ⟨h2.2.1, fun k hk ho => hw.own _ (h2.2.2 k hk) ho, by omega⟩, fun k hk => hw.tokw _ (h2.2.2 k hk)⟩
end Go.Proofs.YtfkdailfcmnjlaaGreatDoor

namespace Go.Proofs.YtfkdailfcmnjlaaGreatDoor
open Go Go.RowKit
set_option maxRecDepth 100000
attribute [local go_sem ↓] Go.wp_at_zero Go.wp_at_succ

/-- The policy lies there as it was read. -/
structure PolAt (bs : Nat) (L : List Pt) (xs : List Itm) (base : Nat) (v : Value) (ys : List (Tok × Tok × Nat × Int)) (w : World) : Prop where
  row : w.ownsRow base 163 10 v ys.length (iCells ys)
  few : ys.length ≤ 1001
  items : ItemsAt (CondS bs L (N1 (idx (giv xs))) w) xs ys
  trees : TreesAt L xs 0
  parts : PartsOK L
  tokw : ∀ k, k < L.length → TokW (L.getD k noPt).tok
  names : namesAt xs L xs 0 0 = none
  types : typesAt xs L xs [] = none
  numb : Numb 0 0 xs ys
  many : manyAt L xs 0 0 = none
/-- What 'Read' answers. -/
def RdAns (er pl : Nat) (L : List Pt) (xs : List Itm) (w : World) (e : Ending) (w' : World) : Prop :=
  Below w.heap.size w w' ∧ ∃ v, e = .returned (.tuple #[v, .int .i64 er, .int .i64 pl]) ∧ (er = 0 → ∃ bs ys, w.heap.size ≤ bs ∧ PolAt bs L xs w.heap.size v ys w')

set_option maxHeartbeats 1000000 in
theorem pread_long (l : List UInt8) (w : World) (h : 1000 < l.length) (hm : l.length ≤ maxLen) (L : List Pt) (xs : List Itm) : Calls Tryz.prog 32 #[S l] w (RdAns 1 0 L xs w) := by
  unfold maxLen at hm
  go_enter Tryz.func32, Tryz.ntmps32
  go_wp2_with fail
  refine bodyPost_ret (v := .tuple #[.slice none 0 0, .int .i64 1, .int .i64 0]) (by simp [results, Tryz.results32, go_sem]) rfl ?_
  exact ⟨Below.refl _ _, _, rfl, fun e => by simp at e⟩

set_option maxHeartbeats 1000000 in
theorem pread_word (l : List UInt8) (w : World) (hW : Wd w) (h : l.length ≤ 1000) (ts : List Tok) (p : Nat) (hx : lex (l.length + 1) l 0 = (ts, some p)) (L : List Pt) (xs : List Itm) : Calls Tryz.prog 32 #[S l] w (RdAns 2 p L xs w) := by
  have HS := split_any l w hW h
  unfold SplitAns at HS
  rw [hx] at HS
  simp only [] at HS
  go_enter Tryz.func32, Tryz.ntmps32
  go_wp2_with fail
  refine HS.mono ?_
  rintro e w1 ⟨hb, rfl⟩
  clear HS
  go_wp2_with fail
  refine bodyPost_ret (v := .tuple #[.slice none 0 0, .int .i64 2, .int .i64 p]) (by simp [results, Tryz.results32, go_sem]) rfl ?_
  exact ⟨hb, _, rfl, fun e => by simp at e⟩

theorem ItemsAt.grow {bs : Nat} {L : List Pt} {N : Tok → Int → Prop} {w w' : World} (hb : Below w.heap.size w w') {xs : List Itm} {ys : List (Tok × Tok × Nat × Int)} (h : ItemsAt (CondS bs L N w) xs ys) : ItemsAt (CondS bs L N w') xs ys := h.mono fun _ _ h => h.grow hb

set_option maxHeartbeats 4000000 in
theorem pread_items (l : List UInt8) (w : World) (hW : Wd w) (h : l.length ≤ 1000) (ts : List Tok) (hx : lex (l.length + 1) l 0 = (ts, none)) {F g : Nat} {R : AllR} (hR : parseAll F ts g 0 [] [] = some R) :
    Calls Tryz.prog 32 #[S l] w (RdAns (verdictOf ts R).1 (verdictOf ts R).2 R.L R.xs w) := by
  obtain ⟨hwo, hwl⟩ := lex_words l (l.length + 1) 0 ts (Nat.zero_le _) (by omega) hx
  have HS := split_any l w hW h
  unfold SplitAns at HS
  rw [hx] at HS
  simp only [] at HS
  have HR : Hid _ := hR
  have HWO : Hid _ := hwo
  have hwl' : ts.length ≤ 1001 := by omega
  have hV : Hid (verdictOf ts R = verdictOf ts R) := rfl
  generalize hv : verdictOf ts R = vd at *
  have HV : Hid _ := hv
  clear hx hR hwo hwl hW hV hv
  go_enter Tryz.func32, Tryz.ntmps32
  go_wp2_with fail
  refine HS.mono ?_
  rintro e w1 ⟨hb1, gw, cap, rfl, hown1⟩
  clear HS
  obtain ⟨hwl1, hwc1⟩ := wrow_cells HWO.out.pos hown1
  have W1 := parse_any (F := F) (cl := cap) (w := w1) HWO.out.tokw HWO.out.own HWO.out.pos hwl' HWO.out.fin hwl1 hwc1 HR.out
  have HB1 : Hid _ := hb1
  clear hown1 hwl1 hwc1 hb1
  go_wp2_with fail
  refine W1.mono ?_
  rintro e w2 ⟨hb2, ⟨ok, rfl⟩ | ⟨ok, v, ys, rfl, hys, hrow, hit, hnu⟩⟩
  · clear W1
    have HE : Hid (vd = (3, (tokAt ts R.i).pl)) := by show _ = _; rw [← HV.out]; unfold verdictOf; rw [if_pos ok]
    have HB2 : Hid _ := HB1.out.trans (hb2.mono HB1.out.size)
    clear hb2 ok
    generalize (tokAt ts R.i).pl = pp at *
    go_wp2_with fail
    refine bodyPost_ret (v := .tuple #[.slice none 0 0, .int .i64 3, .int .i64 pp]) (by simp [results, Tryz.results32, go_sem]) rfl ?_
    rw [HE.out]
    exact ⟨HB2.out, _, rfl, fun e => by simp at e⟩
  · clear W1
    obtain ⟨htr, hpo, htw⟩ := all_known HWO.out hwl' HR.out ok
    have hit2 : ItemsAt (CondS w1.heap.size R.L (N0 (idx (giv R.xs))) w2) R.xs ys := hit.mono fun i b hc => hc.toS fun k hk => .inl rfl
    have W2 := fit_any hpo.few hrow hys hit2 htr hnu
    have HB2 : Hid _ := HB1.out.trans (hb2.mono HB1.out.size)
    have HTR : Hid _ := htr
    have HPO : Hid (PartsOK R.L) := hpo
    have HTW : Hid _ := htw
    have HIT : Hid _ := hit2
    have HROW : Hid (w2.ownsRow w.heap.size 163 10 v ys.length (iCells ys)) := by
      obtain ⟨q1, q2⟩ := hrow
      refine ⟨q1, ?_⟩
      rcases q2 with q2 | ⟨g', c', cur, q3, q4, q5⟩
      · exact .inl q2
      · exact .inr ⟨g', c', cur, q3, Nat.le_trans HB1.out.size q4, q5⟩
    have HOK : Hid _ := ok
    have HSB : Hid (w.heap.size ≤ w1.heap.size) := HB1.out.size
    clear htr hpo htw hit hit2 hrow hb2 ok HB1
    cases hm : manyAt R.L R.xs 0 0 with
    | some p =>
      rw [hm] at W2
      have HE : Hid (vd = (4, p)) := by show _ = _; rw [← HV.out]; unfold verdictOf; rw [if_neg (by rw [HOK.out]; simp), hm]
      clear hm
      unfold plcV at W2
      go_wp2_with fail
      refine W2.mono ?_
      rintro e w3 ⟨rfl, hb3⟩
      clear W2
      go_wp2_with fail
      refine bodyPost_ret (v := .tuple #[.slice none 0 0, .int .i64 4, .int .i64 p]) (by simp [results, Tryz.results32, go_sem]) rfl ?_
      rw [HE.out]
      exact ⟨HB2.out.trans (hb3.mono HB2.out.size), _, rfl, fun e => by simp at e⟩
    | none =>
      rw [hm] at W2
      have HM : Hid _ := hm
      clear hm
      unfold plcV at W2
      go_wp2_with fail
      refine W2.mono ?_
      rintro e w3 ⟨rfl, hb3⟩
      clear W2
      have hrow3 := ownsRow_below HROW.out hb3
      have W3 := resolve_any HPO.out hrow3 hys (HIT.out.grow hb3) HTR.out
      have HB3 : Hid _ := HB2.out.trans (hb3.mono HB2.out.size)
      have HROW3 : Hid _ := hrow3
      clear HB2 HROW HIT hb3 hrow3
      go_wp2_with fail
      refine W3.mono ?_
      rintro e w4 (⟨p, hn, rfl, hf⟩ | ⟨hn, rfl, hf, hit4⟩)
      · clear W3
        have HE : Hid (vd = (5, p)) := by show _ = _; rw [← HV.out]; unfold verdictOf; rw [if_neg (by rw [HOK.out]; simp), HM.out]; simp only []; rw [hn]
        clear hn
        go_wp2_with fail
        refine bodyPost_ret (v := .tuple #[.slice none 0 0, .int .i64 5, .int .i64 p]) (by simp [results, Tryz.results32, go_sem]) rfl ?_
        rw [HE.out]
        exact ⟨HB3.out.trans (hf.below HSB.out HB3.out.size), _, rfl, fun e => by simp at e⟩
      · clear W3
        have hrow4 := ownsRow_rf HROW3.out (by decide) hf
        have W4 := typed_any HPO.out HTW.out hrow4 hys hit4 HTR.out hn
        have HF4 : Hid (Below w.heap.size w w4) := HB3.out.trans ((hf.mono fun _ _ _ _ h => h.1 : RF (SB w1.heap.size) w3 w4).below HSB.out HB3.out.size)
        have HIT4 : Hid _ := hit4
        have HN : Hid _ := hn
        have HROW4 : Hid _ := hrow4
        clear hit4 hn hrow4 hf HB3 HROW3
        cases ht : typesAt R.xs R.L R.xs [] with
        | some p =>
          rw [ht] at W4
          have HE : Hid (vd = (6, p)) := by show _ = _; rw [← HV.out]; unfold verdictOf; rw [if_neg (by rw [HOK.out]; simp), HM.out]; simp only []; rw [HN.out]; simp only []; rw [ht]
          clear ht
          unfold plcV at W4
          go_wp2_with fail
          refine W4.mono ?_
          rintro e w5 ⟨rfl, hb5⟩
          clear W4
          go_wp2_with fail
          refine bodyPost_ret (v := .tuple #[.slice none 0 0, .int .i64 6, .int .i64 p]) (by simp [results, Tryz.results32, go_sem]) rfl ?_
          rw [HE.out]
          exact ⟨HF4.out.trans (hb5.mono HF4.out.size), _, rfl, fun e => by simp at e⟩
        | none =>
          rw [ht] at W4
          have HE : Hid (vd = (0, 0)) := by show _ = _; rw [← HV.out]; unfold verdictOf; rw [if_neg (by rw [HOK.out]; simp), HM.out]; simp only []; rw [HN.out]; simp only []; rw [ht]
          have HTY : Hid _ := ht
          clear ht
          unfold plcV at W4
          go_wp2_with fail
          refine W4.mono ?_
          rintro e w5 ⟨rfl, hb5⟩
          clear W4
          go_wp2_with fail
          refine bodyPost_ret (v := .tuple #[v, .int .i64 0, .int .i64 0]) (by simp [results, Tryz.results32, go_sem]) rfl ?_
          rw [HE.out]
          exact ⟨HF4.out.trans (hb5.mono HF4.out.size), _, rfl, fun _ => ⟨w1.heap.size, ys, HSB.out, ownsRow_below HROW4.out hb5, hys, HIT4.out.grow hb5, HTR.out, HPO.out, HTW.out, HN.out, HTY.out, hnu, HM.out⟩⟩
end Go.Proofs.YtfkdailfcmnjlaaGreatDoor

namespace Go.Proofs.YtfkdailfcmnjlaaGreatDoor
open Go Go.RowKit
set_option maxRecDepth 100000
attribute [local go_sem ↓] Go.wp_at_zero Go.wp_at_succ

theorem pread_any (l : List UInt8) (w : World) (hW : Wd w) (hm : l.length ≤ maxLen) : Calls Tryz.prog 32 #[S l] w (RdAns (readOf l).1.1 (readOf l).1.2 (readOf l).2.1 (readOf l).2.2 w) := by
  unfold readOf
  by_cases h1 : 1000 < l.length
  · rw [if_pos h1]; exact pread_long l w h1 hm _ _
  · rw [if_neg h1]
    cases hx : (lex (l.length + 1) l 0).2 with
    | some p => exact pread_word l w hW (by omega) (lex (l.length + 1) l 0).1 p (by rw [← hx]) _ _
    | none =>
      have hlex : lex (l.length + 1) l 0 = ((lex (l.length + 1) l 0).1, none) := by rw [← hx]
      obtain ⟨r1, r2, r3, r4, r5⟩ := lex_ok l (by omega) (l.length + 1) 0 _ (Nat.zero_le _) (by omega) hlex
      generalize (lex (l.length + 1) l 0).1 = ts at *
      obtain ⟨R, hR⟩ := parse_total (F := 16 * ts.length + 8) (Nat.le_refl _) r4 (ts.length + 1) 0 [] [] (by omega)
      have e : allOf ts = R := by unfold allOf; rw [hR]; rfl
      rw [e]
      exact pread_items l w hW (by omega) ts hlex hR
theorem read_bound (l : List UInt8) : (readOf l).1.1 ≤ 6 := by
  unfold readOf
  split
  · simp
  · split
    · simp
    · unfold verdictOf
      repeat' split
      all_goals simp

set_option maxHeartbeats 1000000 in
theorem num_any (n : Nat) (hn : n ≤ 6) (w : World) : Calls Tryz.prog 13 #[.int .i64 n] w fun e w' => e = .returned (.int .i64 n) ∧ w' = w := by
  go_enter Tryz.func13, Tryz.ntmps13
  go_wp2
  all_goals go_ret
  all_goals refine ⟨ret_int ?_, rfl⟩
  all_goals omega
end Go.Proofs.YtfkdailfcmnjlaaGreatDoor
