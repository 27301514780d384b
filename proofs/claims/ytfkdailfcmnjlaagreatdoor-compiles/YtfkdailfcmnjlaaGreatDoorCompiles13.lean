/-
  The reference's method 'names'. The reference's function 'typeOfSign'.
-/
import Derived.Test.YtfkdailfcmnjlaaGreatDoorCompiles01
import Derived.Test.YtfkdailfcmnjlaaGreatDoorCompiles04
import Derived.Test.YtfkdailfcmnjlaaGreatDoorCompiles05
import Derived.Test.YtfkdailfcmnjlaaGreatDoorCompiles06
import Derived.Test.YtfkdailfcmnjlaaGreatDoorCompiles07
import Derived.Test.YtfkdailfcmnjlaaGreatDoorCompiles08
import Derived.Test.YtfkdailfcmnjlaaGreatDoorCompiles09
import Derived.Test.YtfkdailfcmnjlaaGreatDoorCompiles10
import Derived.Test.YtfkdailfcmnjlaaGreatDoorCompiles11
import Derived.Test.YtfkdailfcmnjlaaGreatDoorCompiles12
import Derived.WalkKit
import Derived.Deep.QuietTactic
import Derived.BigQuiet
import Derived.WalkSpells
import GoSem.Op.String
import Derived.Deep.AppendLies
import Derived.Deep.RegionHeld3
import Derived.Deep.DrawnRows
import Derived.Deep.RegionHeldLaw
import Derived.Deep.RegionLaw
set_option linter.unusedVariables false
set_option linter.unusedSimpArgs false
namespace Go.Proofs.YtfkdailfcmnjlaaGreatDoor
open Go Go.RowKit
set_option maxRecDepth 100000

abbrev polObj (gi n c g m cap : Nat) : Obj := .cells #[.slice (some ⟨gi, 0, none⟩) n c, .slice (some ⟨g, 0, none⟩) m cap] 90

theorem names_step (xs : List Itm) (L : List Pt) (j fr : Nat) (hj : j < xs.length) : namesAt xs L (xs.drop j) fr j =
    if xs[j].name ≠ [] ∧ 0 ≤ letIx xs xs[j].name j then some xs[j].named
    else (wrongAt xs L j (xs[j].parts - fr) fr none).or (namesAt xs L (xs.drop (j + 1)) xs[j].parts (j + 1)) := by
  rw [List.drop_eq_getElem_cons hj, namesAt]
theorem wrong_step (xs : List Itm) (L : List Pt) (i q k : Nat) (o : Option Nat) (h : k < q) : wrongAt xs L i (q - k) k o = wrongAt xs L i (q - (k + 1)) (k + 1) (wrongStep xs i (L.getD k noPt).tok o) := by
  obtain ⟨c, hc⟩ : ∃ c, q - k = c + 1 := ⟨q - k - 1, by omega⟩
  rw [hc, wrongAt, show q - (k + 1) = c from by omega]

set_option maxHeartbeats 8000000 in
theorem names_any {B g cap : Nat} {iv : Value} {xs : List Itm} {ps : List PartS} {w : World} (h : ItemsIn B iv xs w) (hp : PartsIn B g cap ps w) (hq : ∀ x ∈ xs, x.parts ≤ ps.length) :
    Calls Tryz.prog 63 #[.agg #[iv, .slice (some ⟨g, 0, none⟩) ps.length cap]] w fun e w' => e = .returned (placeV (namesAt xs (ps.map toPt) xs 0 0)) ∧ Below w.heap.size w w' := by
  have hb := (Below.refl w.heap.size w).alloc (Nat.le_refl _) (.cells #[iv, .slice (some ⟨g, 0, none⟩) ps.length cap] 90)
  rcases h.form with ⟨rfl, h0⟩ | ⟨gi, c, rfl⟩
  · have HB : Hid _ := hb
    have HE : Hid (namesAt xs (ps.map toPt) xs 0 0 = none) := by
      show _ = _; cases xs with
      | nil => rfl
      | cons => simp at h0
    clear hb h0
    go_enter Tryz.func63, Tryz.ntmps63
    go_wp2_with fail
    go_loop [3, 4] (fun n i => n = .int .i64 0 ∧ i = .int .i64 0) (fun _ _ => 0)
    case atStart => exact ⟨rfl, rfl⟩
    case round =>
      obtain ⟨rfl, rfl⟩ := hrel
      go_wp2_with fail
      go_ret
      exact ⟨by rw [HE.out]; rfl, HB.out⟩
  · have hbx : (w.alloc (polObj gi xs.length c g ps.length cap)).heap[w.heap.size]? = some (polObj gi xs.length c g ps.length cap) := heap_alloc_new w _
    have hf := h.few
    have hpf := hp.few
    have HX : Hid _ := hbx
    clear hbx
    go_enter Tryz.func63, Tryz.ntmps63
    go_wp2_with fail
    go_loopw [3, 4] (fun n i wr => ∃ (fr j : Nat), fr ≤ ps.length ∧ j ≤ xs.length ∧ n = .int .i64 fr ∧ i = .int .i64 j ∧ Hid (namesAt xs (ps.map toPt) xs 0 0 = namesAt xs (ps.map toPt) (xs.drop j) fr j) ∧ Below w.heap.size w wr ∧ wr.heap[w.heap.size]? = some (polObj gi xs.length c g ps.length cap)) (fun _ i _ => xs.length - (intOf i).toNat)
    case atStart => exact ⟨0, 0, Nat.zero_le _, Nat.zero_le _, rfl, rfl, rfl, hb, HX.out⟩
    case round =>
      obtain ⟨fr, j, hfr, hj, rfl, rfl, HM, hbw, hbx⟩ := hrel
      have q0 := cell_of_row wr w.heap.size 0 _ _ _ hbx
      have q1 := cell_of_row wr w.heap.size 1 _ _ _ hbx
      have hlw := lt_of_get hbx
      simp only [List.getElem?_toArray, List.getElem?_cons_zero, List.getElem?_cons_succ] at q0 q1
      by_cases hlt : j < xs.length
      · have hi' := h.below hbw
        obtain ⟨c0, c1, c2, c3, c4, c5⟩ := hi'.cells j hlt
        have HS : Hid _ := names_step xs (ps.map toPt) j fr hlt
        have hm : xs[j] ∈ xs := List.getElem_mem hlt
        have hqj := hq _ hm
        have b1 : (0 : Int) ≤ (j : Int) := by omega
        have b2 : (j : Int) < (xs.length : Int) := by omega
        have lg := World.block_lt_of_cell? wr _ c0
        simp only at lg
        have hnx : wr.heap.size ≠ w.heap.size := by omega
        have hng : wr.heap.size ≠ gi := by omega
        clear hm
        have hbN : Below w.heap.size w (wr.alloc (itmObj xs[j])) := hbw.alloc (by omega) _
        have hbX : (wr.alloc (itmObj xs[j])).heap[w.heap.size]? = some (polObj gi xs.length c g ps.length cap) := by rw [Below.heap_alloc _ _ _ hlw]; exact hbx
        have hbI : (wr.alloc (itmObj xs[j])).heap[wr.heap.size]? = some (itmObj xs[j]) := heap_alloc_new wr _
        have HN : Hid _ := And.intro hbN (And.intro hbX hbI)
        clear hi' hbx hbN hbX hbI
        have hge := letIx_ge xs xs[j].name j
        have hcase : ((xs[j].name == ([] : List UInt8)) = true ∧ Hid (namesAt xs (ps.map toPt) (xs.drop j) fr j = (wrongAt xs (ps.map toPt) j (xs[j].parts - fr) fr none).or (namesAt xs (ps.map toPt) (xs.drop (j + 1)) xs[j].parts (j + 1)))) ∨
            ((xs[j].name == ([] : List UInt8)) = false ∧ letIx xs xs[j].name j < 0 ∧ Hid (namesAt xs (ps.map toPt) (xs.drop j) fr j = (wrongAt xs (ps.map toPt) j (xs[j].parts - fr) fr none).or (namesAt xs (ps.map toPt) (xs.drop (j + 1)) xs[j].parts (j + 1)))) ∨
            ((xs[j].name == ([] : List UInt8)) = false ∧ 0 ≤ letIx xs xs[j].name j ∧ Hid (namesAt xs (ps.map toPt) (xs.drop j) fr j = some xs[j].named)) := by
          have hS := HS.out
          cases hnm : (xs[j].name == []) with
          | true => exact .inl ⟨rfl, by show _ = _; rw [hS, if_neg]; intro e; simp at hnm; exact e.1 hnm⟩
          | false =>
            by_cases hl : 0 ≤ letIx xs xs[j].name j
            · exact .inr (.inr ⟨rfl, hl, by show _ = _; rw [hS, if_pos ⟨by simpa using hnm, hl⟩]⟩)
            · exact .inr (.inl ⟨rfl, by omega, by show _ = _; rw [hS, if_neg (fun e => hl e.2)]⟩)
        clear HS
        rcases hcase with ⟨hn', HQ⟩ | ⟨hn', hl, HQ⟩ | ⟨hn', hl, HQ⟩
        rotate_right
        · go_wp2_with fail
          obtain ⟨hbN, hbX, hbI⟩ := HN.out
          refine (let_any (h.below hbN) _ _ _ xs[j].name j hj).mono ?_
          rintro e w2 ⟨rfl, hb2⟩
          have hI2 : w2.heap[wr.heap.size]? = some (itmObj xs[j]) := by rw [hb2.block _ (lt_of_get hbI)]; exact hbI
          have hB2 : Below w.heap.size w w2 := hbN.trans (hb2.mono hbN.size)
          obtain ⟨⟨x0, x1, x2, x3, x4, x5⟩, xf⟩ := itm_cells hI2
          clear hbN hbX hbI hb2 q0 q1 c0 c1 c2 c3 c4 c5
          generalize letIx xs xs[j].name j = m at *
          go_wp2_with fail
          go_ret
          exact ⟨by rw [HM.out, HQ.out]; rfl, hB2⟩
        · go_wp2_with fail
          obtain ⟨hbN, hbX, hbI⟩ := HN.out
          clear HN q0 q1 c0 c1 c2 c3 c4 c5
          generalize wr.alloc (itmObj xs[j]) = w2 at *
          have hB2 := hbN
          have hX2 := hbX
          have hI2 := hbI
          clear hbN hbX hbI
          generalize hbi : wr.heap.size = bI at *
          clear hbi
          go_loopw [7, 8] (fun o k wk => ∃ (oo : Option Nat) (kk : Nat), fr ≤ kk ∧ kk ≤ ps.length ∧ o = placeV oo ∧ k = .int .i64 kk ∧ Hid (wrongAt xs (ps.map toPt) j (xs[j].parts - fr) fr none = wrongAt xs (ps.map toPt) j (xs[j].parts - kk) kk oo) ∧ Below w.heap.size w wk ∧ wk.heap[w.heap.size]? = some (polObj gi xs.length c g ps.length cap) ∧ wk.heap[bI]? = some (itmObj xs[j])) (fun _ k _ => xs[j].parts - (intOf k).toNat)
          case atStart => exact ⟨none, fr, Nat.le_refl _, hfr, rfl, rfl, rfl, hB2, hX2, hI2⟩
          case round =>
            obtain ⟨oo, kk, hfk, hkp, rfl, rfl, HW, hBk, hXk, hIk⟩ := hrel
            have q0 := cell_of_row wr w.heap.size 0 _ _ _ hXk
            have q1 := cell_of_row wr w.heap.size 1 _ _ _ hXk
            obtain ⟨⟨x0, x1, x2, x3, x4, x5⟩, xf⟩ := itm_cells hIk
            have hl1 := lt_of_get hXk
            have hl2 := lt_of_get hIk
            simp only [List.getElem?_toArray, List.getElem?_cons_zero, List.getElem?_cons_succ] at q0 q1
            by_cases hk : kk < xs[j].parts
            · have hkl : kk < ps.length := by omega
              have hpk := hp.below hBk
              obtain ⟨k0, k1, k2, k3, k4⟩ := hpk.cells kk hkl
              have lp := World.block_lt_of_cell? wr _ k0
              simp only at lp
              have HT : Hid _ := wrong_step xs (ps.map toPt) j xs[j].parts kk oo hk
              have hpt : ((ps.map toPt).getD kk noPt).tok = (ps.getD kk noPart).tok := by rw [toPt_at ps kk hkl]; rfl
              have HPT : Hid _ := hpt
              have b3 : (0 : Int) ≤ (kk : Int) := by omega
              have b4 : (kk : Int) < (ps.length : Int) := by omega
              have n1 : wr.heap.size ≠ w.heap.size := by omega
              have n2 : wr.heap.size ≠ bI := by omega
              have n3 : wr.heap.size ≠ g := by omega
              have hBn : Below w.heap.size w (wr.alloc (wordObj (ps.getD kk noPart).tok)) := hBk.alloc (by have := hBk.size; omega) _
              have hXn : (wr.alloc (wordObj (ps.getD kk noPart).tok)).heap[w.heap.size]? = some (polObj gi xs.length c g ps.length cap) := by rw [Below.heap_alloc _ _ _ hl1]; exact hXk
              have hIn : (wr.alloc (wordObj (ps.getD kk noPart).tok)).heap[bI]? = some (itmObj xs[j]) := by rw [Below.heap_alloc _ _ _ hl2]; exact hIk
              have hWn : (wr.alloc (wordObj (ps.getD kk noPart).tok)).heap[wr.heap.size]? = some (wordObj (ps.getD kk noPart).tok) := heap_alloc_new wr _
              have HN : Hid _ := And.intro hBn (And.intro hXn (And.intro hIn hWn))
              clear hpt hpk k3 k4 hBk hXk hIk hBn hXn hIn hWn
              generalize (ps.getD kk noPart).tok = t at *
              by_cases ht : t.k = 111
              · have ht1 : ((t.k : Int) != 111) = false := by simp; omega
                have HT1 : Hid _ := ht
                clear ht
                go_wp2_with fail
                obtain ⟨hBn, hXn, hIn, hWn⟩ := HN.out
                have hge := letIx_ge xs t.text j
                refine (let_any (h.below hBn) _ _ _ t.text j hj).mono ?_
                rintro e w4 ⟨rfl, hb4⟩
                have hX4 : w4.heap[w.heap.size]? = some (polObj gi xs.length c g ps.length cap) := by rw [hb4.block _ (lt_of_get hXn)]; exact hXn
                have hI4 : w4.heap[bI]? = some (itmObj xs[j]) := by rw [hb4.block _ (lt_of_get hIn)]; exact hIn
                have hW4 : w4.heap[wr.heap.size]? = some (wordObj t) := by rw [hb4.block _ (lt_of_get hWn)]; exact hWn
                have hB4 : Below w.heap.size w w4 := hBn.trans (hb4.mono hBn.size)
                have r2 := cell_of_row w4 wr.heap.size 2 _ _ _ hW4
                simp only [List.getElem?_toArray, List.getElem?_cons_zero, List.getElem?_cons_succ] at r2
                have HZ : Hid (wrongStep xs j t oo = if letIx xs t.text j < 0 then better t.pl oo else oo) := by
                  show _ = _; unfold wrongStep
                  by_cases hl : letIx xs t.text j < 0
                  · rw [if_pos ⟨HT1.out, hl⟩, if_pos hl]
                  · rw [if_neg (fun e => hl e.2), if_neg hl]
                clear HN hBn hXn hIn hWn hb4 q0 q1 x0 x1 x2 x3 x4 x5 xf k0 k1 k2
                generalize letIx xs t.text j = m at *
                by_cases hm : m < 0
                · have HZ' : Hid (wrongStep xs j t oo = better t.pl oo) := by show _ = _; rw [HZ.out, if_pos hm]
                  clear HZ
                  cases oo with
                  | none =>
                    unfold placeV
                    go_wp2_with fail
                    go_roundw
                    case rel => exact ⟨some t.pl, kk + 1, by omega, by omega, rfl, by go_num, (by show _ = _; rw [HW.out, HT.out, HPT.out, HZ'.out]; rfl), hB4, hX4, hI4⟩
                    case measure => simp [intOf]; omega
                  | some p =>
                    by_cases hpl : t.pl < p
                    · have hE : Hid (better t.pl (some p) = some t.pl) := if_pos hpl
                      unfold placeV
                      go_wp2_with fail
                      go_roundw
                      case rel => exact ⟨some t.pl, kk + 1, by omega, by omega, rfl, by go_num, (by show _ = _; rw [HW.out, HT.out, HPT.out, HZ'.out, hE.out]), hB4, hX4, hI4⟩
                      case measure => simp [intOf]; omega
                    · have hE : Hid (better t.pl (some p) = some p) := if_neg hpl
                      unfold placeV
                      go_wp2_with fail
                      go_roundw
                      case rel => exact ⟨some p, kk + 1, by omega, by omega, rfl, by go_num, (by show _ = _; rw [HW.out, HT.out, HPT.out, HZ'.out, hE.out]), hB4, hX4, hI4⟩
                      case measure => simp [intOf]; omega
                · have HZ' : Hid (wrongStep xs j t oo = oo) := by show _ = _; rw [HZ.out, if_neg hm]
                  clear HZ
                  cases oo with
                  | none =>
                    unfold placeV
                    go_wp2_with fail
                    go_roundw
                    case rel => exact ⟨none, kk + 1, by omega, by omega, rfl, by go_num, (by show _ = _; rw [HW.out, HT.out, HPT.out, HZ'.out]), hB4, hX4, hI4⟩
                    case measure => simp [intOf]; omega
                  | some p =>
                    unfold placeV
                    go_wp2_with fail
                    go_roundw
                    case rel => exact ⟨some p, kk + 1, by omega, by omega, rfl, by go_num, (by show _ = _; rw [HW.out, HT.out, HPT.out, HZ'.out]), hB4, hX4, hI4⟩
                    case measure => simp [intOf]; omega
              · have ht1 : ((t.k : Int) != 111) = true := by simp; omega
                have HZ : Hid (wrongStep xs j t oo = oo) := by show _ = _; unfold wrongStep; rw [if_neg (fun e => ht e.1)]
                clear ht
                go_wp2_with fail
                go_roundw
                case rel =>
                  obtain ⟨hBn, hXn, hIn, hWn⟩ := HN.out
                  exact ⟨oo, kk + 1, by omega, by omega, rfl, by go_num, (by show _ = _; rw [HW.out, HT.out, HPT.out, HZ.out]), hBn, hXn, hIn⟩
                case measure => simp [intOf]; omega
            · have HE : Hid (wrongAt xs (ps.map toPt) j (xs[j].parts - fr) fr none = oo) := by
                show _ = _; rw [HW.out, show xs[j].parts - kk = 0 from by omega]; rfl
              cases oo with
              | none =>
                unfold placeV
                go_wp2_with fail
                go_roundw
                case rel => exact ⟨xs[j].parts, j + 1, by omega, by omega, rfl, by go_num, (by show _ = _; rw [HM.out, HQ.out, HE.out]; rfl), hBk, hXk⟩
                case measure => simp [intOf]; omega
              | some p =>
                unfold placeV
                go_wp2_with fail
                go_ret
                exact ⟨by rw [HM.out, HQ.out, HE.out]; rfl, hBk⟩
        · go_wp2_with fail
          obtain ⟨hbN, hbX, hbI⟩ := HN.out
          refine (let_any (h.below hbN) _ _ _ xs[j].name j hj).mono ?_
          rintro e w2 ⟨rfl, hb2⟩
          have hI2 : w2.heap[wr.heap.size]? = some (itmObj xs[j]) := by rw [hb2.block _ (lt_of_get hbI)]; exact hbI
          have hX2 : w2.heap[w.heap.size]? = some (polObj gi xs.length c g ps.length cap) := by rw [hb2.block _ (lt_of_get hbX)]; exact hbX
          have hB2 : Below w.heap.size w w2 := hbN.trans (hb2.mono hbN.size)
          clear HN hbN hbX hbI hb2 q0 q1 c0 c1 c2 c3 c4 c5
          generalize letIx xs xs[j].name j = m at *
          go_wp2_with fail
          generalize hbi : wr.heap.size = bI at *
          clear hbi
          go_loopw [7, 8] (fun o k wk => ∃ (oo : Option Nat) (kk : Nat), fr ≤ kk ∧ kk ≤ ps.length ∧ o = placeV oo ∧ k = .int .i64 kk ∧ Hid (wrongAt xs (ps.map toPt) j (xs[j].parts - fr) fr none = wrongAt xs (ps.map toPt) j (xs[j].parts - kk) kk oo) ∧ Below w.heap.size w wk ∧ wk.heap[w.heap.size]? = some (polObj gi xs.length c g ps.length cap) ∧ wk.heap[bI]? = some (itmObj xs[j])) (fun _ k _ => xs[j].parts - (intOf k).toNat)
          case atStart => exact ⟨none, fr, Nat.le_refl _, hfr, rfl, rfl, rfl, hB2, hX2, hI2⟩
          case round =>
            obtain ⟨oo, kk, hfk, hkp, rfl, rfl, HW, hBk, hXk, hIk⟩ := hrel
            have q0 := cell_of_row wr w.heap.size 0 _ _ _ hXk
            have q1 := cell_of_row wr w.heap.size 1 _ _ _ hXk
            obtain ⟨⟨x0, x1, x2, x3, x4, x5⟩, xf⟩ := itm_cells hIk
            have hl1 := lt_of_get hXk
            have hl2 := lt_of_get hIk
            simp only [List.getElem?_toArray, List.getElem?_cons_zero, List.getElem?_cons_succ] at q0 q1
            by_cases hk : kk < xs[j].parts
            · have hkl : kk < ps.length := by omega
              have hpk := hp.below hBk
              obtain ⟨k0, k1, k2, k3, k4⟩ := hpk.cells kk hkl
              have lp := World.block_lt_of_cell? wr _ k0
              simp only at lp
              have HT : Hid _ := wrong_step xs (ps.map toPt) j xs[j].parts kk oo hk
              have hpt : ((ps.map toPt).getD kk noPt).tok = (ps.getD kk noPart).tok := by rw [toPt_at ps kk hkl]; rfl
              have HPT : Hid _ := hpt
              have b3 : (0 : Int) ≤ (kk : Int) := by omega
              have b4 : (kk : Int) < (ps.length : Int) := by omega
              have n1 : wr.heap.size ≠ w.heap.size := by omega
              have n2 : wr.heap.size ≠ bI := by omega
              have n3 : wr.heap.size ≠ g := by omega
              have hBn : Below w.heap.size w (wr.alloc (wordObj (ps.getD kk noPart).tok)) := hBk.alloc (by have := hBk.size; omega) _
              have hXn : (wr.alloc (wordObj (ps.getD kk noPart).tok)).heap[w.heap.size]? = some (polObj gi xs.length c g ps.length cap) := by rw [Below.heap_alloc _ _ _ hl1]; exact hXk
              have hIn : (wr.alloc (wordObj (ps.getD kk noPart).tok)).heap[bI]? = some (itmObj xs[j]) := by rw [Below.heap_alloc _ _ _ hl2]; exact hIk
              have hWn : (wr.alloc (wordObj (ps.getD kk noPart).tok)).heap[wr.heap.size]? = some (wordObj (ps.getD kk noPart).tok) := heap_alloc_new wr _
              have HN : Hid _ := And.intro hBn (And.intro hXn (And.intro hIn hWn))
              clear hpt hpk k3 k4 hBk hXk hIk hBn hXn hIn hWn
              generalize (ps.getD kk noPart).tok = t at *
              by_cases ht : t.k = 111
              · have ht1 : ((t.k : Int) != 111) = false := by simp; omega
                have HT1 : Hid _ := ht
                clear ht
                go_wp2_with fail
                obtain ⟨hBn, hXn, hIn, hWn⟩ := HN.out
                have hge := letIx_ge xs t.text j
                refine (let_any (h.below hBn) _ _ _ t.text j hj).mono ?_
                rintro e w4 ⟨rfl, hb4⟩
                have hX4 : w4.heap[w.heap.size]? = some (polObj gi xs.length c g ps.length cap) := by rw [hb4.block _ (lt_of_get hXn)]; exact hXn
                have hI4 : w4.heap[bI]? = some (itmObj xs[j]) := by rw [hb4.block _ (lt_of_get hIn)]; exact hIn
                have hW4 : w4.heap[wr.heap.size]? = some (wordObj t) := by rw [hb4.block _ (lt_of_get hWn)]; exact hWn
                have hB4 : Below w.heap.size w w4 := hBn.trans (hb4.mono hBn.size)
                have r2 := cell_of_row w4 wr.heap.size 2 _ _ _ hW4
                simp only [List.getElem?_toArray, List.getElem?_cons_zero, List.getElem?_cons_succ] at r2
                have HZ : Hid (wrongStep xs j t oo = if letIx xs t.text j < 0 then better t.pl oo else oo) := by
                  show _ = _; unfold wrongStep
                  by_cases hl : letIx xs t.text j < 0
                  · rw [if_pos ⟨HT1.out, hl⟩, if_pos hl]
                  · rw [if_neg (fun e => hl e.2), if_neg hl]
                clear HN hBn hXn hIn hWn hb4 q0 q1 x0 x1 x2 x3 x4 x5 xf k0 k1 k2
                generalize letIx xs t.text j = m at *
                by_cases hm : m < 0
                · have HZ' : Hid (wrongStep xs j t oo = better t.pl oo) := by show _ = _; rw [HZ.out, if_pos hm]
                  clear HZ
                  cases oo with
                  | none =>
                    unfold placeV
                    go_wp2_with fail
                    go_roundw
                    case rel => exact ⟨some t.pl, kk + 1, by omega, by omega, rfl, by go_num, (by show _ = _; rw [HW.out, HT.out, HPT.out, HZ'.out]; rfl), hB4, hX4, hI4⟩
                    case measure => simp [intOf]; omega
                  | some p =>
                    by_cases hpl : t.pl < p
                    · have hE : Hid (better t.pl (some p) = some t.pl) := if_pos hpl
                      unfold placeV
                      go_wp2_with fail
                      go_roundw
                      case rel => exact ⟨some t.pl, kk + 1, by omega, by omega, rfl, by go_num, (by show _ = _; rw [HW.out, HT.out, HPT.out, HZ'.out, hE.out]), hB4, hX4, hI4⟩
                      case measure => simp [intOf]; omega
                    · have hE : Hid (better t.pl (some p) = some p) := if_neg hpl
                      unfold placeV
                      go_wp2_with fail
                      go_roundw
                      case rel => exact ⟨some p, kk + 1, by omega, by omega, rfl, by go_num, (by show _ = _; rw [HW.out, HT.out, HPT.out, HZ'.out, hE.out]), hB4, hX4, hI4⟩
                      case measure => simp [intOf]; omega
                · have HZ' : Hid (wrongStep xs j t oo = oo) := by show _ = _; rw [HZ.out, if_neg hm]
                  clear HZ
                  cases oo with
                  | none =>
                    unfold placeV
                    go_wp2_with fail
                    go_roundw
                    case rel => exact ⟨none, kk + 1, by omega, by omega, rfl, by go_num, (by show _ = _; rw [HW.out, HT.out, HPT.out, HZ'.out]), hB4, hX4, hI4⟩
                    case measure => simp [intOf]; omega
                  | some p =>
                    unfold placeV
                    go_wp2_with fail
                    go_roundw
                    case rel => exact ⟨some p, kk + 1, by omega, by omega, rfl, by go_num, (by show _ = _; rw [HW.out, HT.out, HPT.out, HZ'.out]), hB4, hX4, hI4⟩
                    case measure => simp [intOf]; omega
              · have ht1 : ((t.k : Int) != 111) = true := by simp; omega
                have HZ : Hid (wrongStep xs j t oo = oo) := by show _ = _; unfold wrongStep; rw [if_neg (fun e => ht e.1)]
                clear ht
                go_wp2_with fail
                go_roundw
                case rel =>
                  obtain ⟨hBn, hXn, hIn, hWn⟩ := HN.out
                  exact ⟨oo, kk + 1, by omega, by omega, rfl, by go_num, (by show _ = _; rw [HW.out, HT.out, HPT.out, HZ.out]), hBn, hXn, hIn⟩
                case measure => simp [intOf]; omega
            · have HE : Hid (wrongAt xs (ps.map toPt) j (xs[j].parts - fr) fr none = oo) := by
                show _ = _; rw [HW.out, show xs[j].parts - kk = 0 from by omega]; rfl
              cases oo with
              | none =>
                unfold placeV
                go_wp2_with fail
                go_roundw
                case rel => exact ⟨xs[j].parts, j + 1, by omega, by omega, rfl, by go_num, (by show _ = _; rw [HM.out, HQ.out, HE.out]; rfl), hBk, hXk⟩
                case measure => simp [intOf]; omega
              | some p =>
                unfold placeV
                go_wp2_with fail
                go_ret
                exact ⟨by rw [HM.out, HQ.out, HE.out]; rfl, hBk⟩
      · go_wp2_with fail
        go_ret
        refine ⟨?_, hbw⟩
        rw [HM.out, List.drop_of_length_le (by omega)]; rfl
end Go.Proofs.YtfkdailfcmnjlaaGreatDoor

namespace Go.Proofs.YtfkdailfcmnjlaaGreatDoor
open Go Go.RowKit
set_option maxRecDepth 100000

set_option maxHeartbeats 4000000 in
theorem typeOfSign_any (x s : List UInt8) (w : World) (h2 : x = [61] → 2 ≤ s.length) (h3 : x = [105, 102] → 3 ≤ s.length) :
    Calls Tryz.prog 161 #[S x, S s] w fun e w' => e = .returned (.int .u8 (tySign x s)) ∧ ∃ n, w' = w.drewN n := by
  by_cases hx : x = [43]
  · subst hx
    by_cases hs : s = [110, 110]
    · have hs' : (s == [110, 110]) = true := by simp [hs]
      have HE : Hid (tySign [43] s = 110) := by show _ = _; rw [hs]; decide
      clear hs
      go_enter Tryz.func161, Tryz.ntmps161
      go_wp2_with fail
      go_ret
      exact ⟨ret_int (by rw [HE.out]; rfl), 0, rfl⟩
    · have hs' : (s == [110, 110]) = false := by simp [hs]
      have HE : Hid (tySign [43] s = 0) := by show _ = _; simp [tySign, hs]
      clear hs
      go_enter Tryz.func161, Tryz.ntmps161
      go_wp2_with fail
      go_ret
      exact ⟨ret_int (by rw [HE.out]; rfl), 0, rfl⟩
  by_cases hx : x = [45]
  · subst hx
    by_cases hs : s = [110, 110]
    · have hs' : (s == [110, 110]) = true := by simp [hs]
      have HE : Hid (tySign [45] s = 110) := by show _ = _; rw [hs]; decide
      clear hs
      go_enter Tryz.func161, Tryz.ntmps161
      go_wp2_with fail
      go_ret
      exact ⟨ret_int (by rw [HE.out]; rfl), 0, rfl⟩
    · have hs' : (s == [110, 110]) = false := by simp [hs]
      have HE : Hid (tySign [45] s = 0) := by show _ = _; simp [tySign, hs]
      clear hs
      go_enter Tryz.func161, Tryz.ntmps161
      go_wp2_with fail
      go_ret
      exact ⟨ret_int (by rw [HE.out]; rfl), 0, rfl⟩
  by_cases hx : x = [60]
  · subst hx
    by_cases hs : s = [110, 110]
    · have hs' : (s == [110, 110]) = true := by simp [hs]
      have HE : Hid (tySign [60] s = 116) := by show _ = _; rw [hs]; decide
      clear hs
      go_enter Tryz.func161, Tryz.ntmps161
      go_wp2_with fail
      go_ret
      exact ⟨ret_int (by rw [HE.out]; rfl), 0, rfl⟩
    · have hs' : (s == [110, 110]) = false := by simp [hs]
      have HE : Hid (tySign [60] s = 0) := by show _ = _; simp [tySign, hs]
      clear hs
      go_enter Tryz.func161, Tryz.ntmps161
      go_wp2_with fail
      go_ret
      exact ⟨ret_int (by rw [HE.out]; rfl), 0, rfl⟩
  by_cases hx : x = [60, 61]
  · subst hx
    by_cases hs : s = [110, 110]
    · have hs' : (s == [110, 110]) = true := by simp [hs]
      have HE : Hid (tySign [60, 61] s = 116) := by show _ = _; rw [hs]; decide
      clear hs
      go_enter Tryz.func161, Tryz.ntmps161
      go_wp2_with fail
      go_ret
      exact ⟨ret_int (by rw [HE.out]; rfl), 0, rfl⟩
    · have hs' : (s == [110, 110]) = false := by simp [hs]
      have HE : Hid (tySign [60, 61] s = 0) := by show _ = _; simp [tySign, hs]
      clear hs
      go_enter Tryz.func161, Tryz.ntmps161
      go_wp2_with fail
      go_ret
      exact ⟨ret_int (by rw [HE.out]; rfl), 0, rfl⟩
  by_cases hx : x = [111, 114]
  · subst hx
    by_cases hs : s = [116, 116]
    · have hs' : (s == [116, 116]) = true := by simp [hs]
      have HE : Hid (tySign [111, 114] s = 116) := by show _ = _; rw [hs]; decide
      clear hs
      go_enter Tryz.func161, Tryz.ntmps161
      go_wp2_with fail
      go_ret
      exact ⟨ret_int (by rw [HE.out]; rfl), 0, rfl⟩
    · have hs' : (s == [116, 116]) = false := by simp [hs]
      have HE : Hid (tySign [111, 114] s = 0) := by show _ = _; simp [tySign, hs]
      clear hs
      go_enter Tryz.func161, Tryz.ntmps161
      go_wp2_with fail
      go_ret
      exact ⟨ret_int (by rw [HE.out]; rfl), 0, rfl⟩
  by_cases hx : x = [97, 110, 100]
  · subst hx
    by_cases hs : s = [116, 116]
    · have hs' : (s == [116, 116]) = true := by simp [hs]
      have HE : Hid (tySign [97, 110, 100] s = 116) := by show _ = _; rw [hs]; decide
      clear hs
      go_enter Tryz.func161, Tryz.ntmps161
      go_wp2_with fail
      go_ret
      exact ⟨ret_int (by rw [HE.out]; rfl), 0, rfl⟩
    · have hs' : (s == [116, 116]) = false := by simp [hs]
      have HE : Hid (tySign [97, 110, 100] s = 0) := by show _ = _; simp [tySign, hs]
      clear hs
      go_enter Tryz.func161, Tryz.ntmps161
      go_wp2_with fail
      go_ret
      exact ⟨ret_int (by rw [HE.out]; rfl), 0, rfl⟩
  by_cases hx : x = [110, 111, 116]
  · subst hx
    by_cases hs : s = [116]
    · have hs' : (s == [116]) = true := by simp [hs]
      have HE : Hid (tySign [110, 111, 116] s = 116) := by show _ = _; rw [hs]; decide
      clear hs
      go_enter Tryz.func161, Tryz.ntmps161
      go_wp2_with fail
      go_ret
      exact ⟨ret_int (by rw [HE.out]; rfl), 0, rfl⟩
    · have hs' : (s == [116]) = false := by simp [hs]
      have HE : Hid (tySign [110, 111, 116] s = 0) := by show _ = _; simp [tySign, hs]
      clear hs
      go_enter Tryz.func161, Tryz.ntmps161
      go_wp2_with fail
      go_ret
      exact ⟨ret_int (by rw [HE.out]; rfl), 0, rfl⟩
  by_cases hx1 : x = [61]
  · have hl := h2 hx1
    subst hx1
    have l0 : 0 < s.length := by omega
    have l1 : 1 < s.length := by omega
    have HE : Hid (tySign [61] s = if (((ByteArray.mk s.toArray)[0]'l0).toNat : Int) = (((ByteArray.mk s.toArray)[1]'l1).toNat : Int) then 116 else 0) := by
      have e0 : (s.getD 0 0).toNat = ((ByteArray.mk s.toArray)[0]'l0).toNat := by rw [List.getD_eq_getElem?_getD, List.getElem?_eq_getElem l0]; rfl
      have e1 : (s.getD 1 0).toNat = ((ByteArray.mk s.toArray)[1]'l1).toNat := by rw [List.getD_eq_getElem?_getD, List.getElem?_eq_getElem l1]; rfl
      show tySign [61] s = _
      have : tySign [61] s = if (s.getD 0 0).toNat = (s.getD 1 0).toNat then 116 else 0 := rfl
      rw [this, e0, e1]
      simp only [Int.natCast_inj]
    clear h2 h3
    by_cases h1 : (((ByteArray.mk s.toArray)[0]'l0).toNat : Int) = (((ByteArray.mk s.toArray)[1]'l1).toNat : Int)
    · have h1' : ((((ByteArray.mk s.toArray)[0]'l0).toNat : Int) == (((ByteArray.mk s.toArray)[1]'l1).toNat : Int)) = true := by simp [h1]
      have HF : Hid (tySign [61] s = 116) := by show _ = _; rw [HE.out, if_pos h1]
      clear h1 HE
      go_enter Tryz.func161, Tryz.ntmps161
      go_wp2_with fail
      go_region_held3 (fun _ => True) (trivial) (fail)
      all_goals
        go_wp2
        go_ret
        refine ⟨ret_int ?_, 1, rfl⟩
        rw [HF.out]; rfl
    · have h1' : ((((ByteArray.mk s.toArray)[0]'l0).toNat : Int) == (((ByteArray.mk s.toArray)[1]'l1).toNat : Int)) = false := by simp [h1]
      have HF : Hid (tySign [61] s = 0) := by show _ = _; rw [HE.out, if_neg h1]
      clear h1 HE
      go_enter Tryz.func161, Tryz.ntmps161
      go_wp2_with fail
      go_region_held3 (fun _ => True) (trivial) (fail)
      all_goals
        go_wp2
        go_ret
        refine ⟨ret_int ?_, 1, rfl⟩
        rw [HF.out]; rfl
  by_cases hx2 : x = [105, 102]
  · have hl := h3 hx2
    subst hx2
    have l0 : 0 < s.length := by omega
    have l1 : 1 < s.length := by omega
    have l2 : 2 < s.length := by omega
    have HE : Hid (tySign [105, 102] s = if (((ByteArray.mk s.toArray)[0]'l0).toNat : Int) = 116 ∧ (((ByteArray.mk s.toArray)[1]'l1).toNat : Int) = (((ByteArray.mk s.toArray)[2]'l2).toNat : Int) then ((ByteArray.mk s.toArray)[1]'l1).toNat else 0) := by
      have e0 : (s.getD 0 0).toNat = ((ByteArray.mk s.toArray)[0]'l0).toNat := by rw [List.getD_eq_getElem?_getD, List.getElem?_eq_getElem l0]; rfl
      have e1 : (s.getD 1 0).toNat = ((ByteArray.mk s.toArray)[1]'l1).toNat := by rw [List.getD_eq_getElem?_getD, List.getElem?_eq_getElem l1]; rfl
      have e2 : (s.getD 2 0).toNat = ((ByteArray.mk s.toArray)[2]'l2).toNat := by rw [List.getD_eq_getElem?_getD, List.getElem?_eq_getElem l2]; rfl
      show tySign [105, 102] s = _
      have : tySign [105, 102] s = if (s.getD 0 0).toNat = 116 ∧ (s.getD 1 0).toNat = (s.getD 2 0).toNat then (s.getD 1 0).toNat else 0 := rfl
      rw [this, e0, e1, e2]
      by_cases hq : ((ByteArray.mk s.toArray)[0]'l0).toNat = 116 ∧ ((ByteArray.mk s.toArray)[1]'l1).toNat = ((ByteArray.mk s.toArray)[2]'l2).toNat
      · rw [if_pos hq, if_pos (by omega)]
      · rw [if_neg hq, if_neg (by omega)]
    clear h2 h3
    by_cases h0 : (((ByteArray.mk s.toArray)[0]'l0).toNat : Int) = 116
    · have h0' : ((((ByteArray.mk s.toArray)[0]'l0).toNat : Int) == 116) = true := by simp [h0]
      by_cases h1 : (((ByteArray.mk s.toArray)[1]'l1).toNat : Int) = (((ByteArray.mk s.toArray)[2]'l2).toNat : Int)
      · have h1' : ((((ByteArray.mk s.toArray)[1]'l1).toNat : Int) == (((ByteArray.mk s.toArray)[2]'l2).toNat : Int)) = true := by simp [h1]
        have HF : Hid (tySign [105, 102] s = ((ByteArray.mk s.toArray)[1]'l1).toNat) := by show _ = _; rw [HE.out, if_pos ⟨h0, h1⟩]
        clear h0 h1 HE
        go_enter Tryz.func161, Tryz.ntmps161
        go_wp2_with fail
        go_region_held3 (fun _ => True) (trivial) (fail)
        all_goals
          go_wp2
          go_ret
          refine ⟨ret_int ?_, 1, rfl⟩
          rw [HF.out]
      · have h1' : ((((ByteArray.mk s.toArray)[1]'l1).toNat : Int) == (((ByteArray.mk s.toArray)[2]'l2).toNat : Int)) = false := by simp [h1]
        have HF : Hid (tySign [105, 102] s = 0) := by show _ = _; rw [HE.out, if_neg (fun e => h1 e.2)]
        clear h0 h1 HE
        go_enter Tryz.func161, Tryz.ntmps161
        go_wp2_with fail
        go_region_held3 (fun _ => True) (trivial) (fail)
        all_goals
          go_wp2
          go_ret
          refine ⟨ret_int ?_, 1, rfl⟩
          rw [HF.out]; rfl
    · have h0' : ((((ByteArray.mk s.toArray)[0]'l0).toNat : Int) == 116) = false := by simp [h0]
      have HF : Hid (tySign [105, 102] s = 0) := by show _ = _; rw [HE.out, if_neg (fun e => h0 e.1)]
      clear h0 HE
      go_enter Tryz.func161, Tryz.ntmps161
      go_wp2_with fail
      go_region
      all_goals
        go_wp2
        go_ret
        refine ⟨ret_int ?_, 1, rfl⟩
        rw [HF.out]; rfl
  · have HF : Hid (tySign x s = 0) := by show _ = _; simp [tySign, *]
    have t1 : (x == ([43] : List UInt8)) = false := by simp [*]
    have t2 : (x == ([45] : List UInt8)) = false := by simp [*]
    have t3 : (x == ([60] : List UInt8)) = false := by simp [*]
    have t4 : (x == ([60, 61] : List UInt8)) = false := by simp [*]
    have t5 : (x == ([61] : List UInt8)) = false := by simp [*]
    have t6 : (x == ([111, 114] : List UInt8)) = false := by simp [*]
    have t7 : (x == ([97, 110, 100] : List UInt8)) = false := by simp [*]
    have t8 : (x == ([110, 111, 116] : List UInt8)) = false := by simp [*]
    have t9 : (x == ([105, 102] : List UInt8)) = false := by simp [*]
    clear h2 h3 hx1 hx2
    go_enter Tryz.func161, Tryz.ntmps161
    go_wp2_with fail
    go_ret
    exact ⟨ret_int (by rw [HF.out]; rfl), 0, rfl⟩
end Go.Proofs.YtfkdailfcmnjlaaGreatDoor
