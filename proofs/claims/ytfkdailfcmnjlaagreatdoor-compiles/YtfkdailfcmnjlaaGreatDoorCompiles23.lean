/-
  How deep trees in the program's memory are. The program's limits: is anything too much? Lists of names in the program's memory: the library's Index and Contains of them. The program's names: a condition. The program's names: every condition. The program's names: a whole policy. The program's types: a condition.
-/
import Derived.Test.YtfkdailfcmnjlaaGreatDoorCompiles01
import Derived.Test.YtfkdailfcmnjlaaGreatDoorCompiles02
import Derived.Test.YtfkdailfcmnjlaaGreatDoorCompiles04
import Derived.Test.YtfkdailfcmnjlaaGreatDoorCompiles05
import Derived.Test.YtfkdailfcmnjlaaGreatDoorCompiles06
import Derived.Test.YtfkdailfcmnjlaaGreatDoorCompiles07
import Derived.Test.YtfkdailfcmnjlaaGreatDoorCompiles08
import Derived.Test.YtfkdailfcmnjlaaGreatDoorCompiles16
import Derived.Test.YtfkdailfcmnjlaaGreatDoorCompiles17
import Derived.Test.YtfkdailfcmnjlaaGreatDoorCompiles18
import Derived.Test.YtfkdailfcmnjlaaGreatDoorCompiles19
import Derived.Test.YtfkdailfcmnjlaaGreatDoorCompiles20
import Derived.Test.YtfkdailfcmnjlaaGreatDoorCompiles21
import Derived.Test.YtfkdailfcmnjlaaGreatDoorCompiles22
import Derived.Test.YtfkdailfcmnjlaaGreatDoorLays
import Derived.WalkKit
import Derived.Deep.QuietTactic
import Derived.BigQuiet
import Derived.WalkSpells
import GoSem.Op.String
import Derived.Deep.AppendLies
import Derived.Deep.RegionHeld3
import Derived.Deep.DrawnRows
import Derived.Deep.RegionHeldLaw
import Derived.Deep.RegionLaw
import Derived.Lib.ParseIntBCases
set_option linter.unusedVariables false
set_option linter.unusedSimpArgs false
namespace Go.Proofs.YtfkdailfcmnjlaaGreatDoor
open Go Go.RowKit
set_option maxRecDepth 100000
attribute [local go_sem ↓] Go.wp_at_zero Go.wp_at_succ
variable {bs : Nat}

set_option maxHeartbeats 4000000 in
theorem pdepth_any {L : List Pt} {N : Tok → Int → Prop} (f : Nat) (hf : f ≤ 5001) : ∀ {lo i b : Nat} {w : World}, TreeF f L lo i → CondS bs L N w i b →
    Calls Tryz.prog 108 #[.pointer (some ⟨b, 0, none⟩)] w fun e w' => e = .returned (.int .i64 (dep f L i)) ∧ Below w.heap.size w w' := by
  induction f with
  | zero => intro lo i b w h; exact h.elim
  | succ f ih =>
    intro lo i b w hT hC
    have ih := @ih (by omega)
    have hdb := dep_bound (f + 1) L i
    have hle := hT.le
    have hlt := hT.lt
    obtain ⟨u, n, bl, hi, hlo, hn, hb, hu, hs⟩ := hC.inv
    obtain ⟨⟨c0, c1, c2, c3, c4, c5⟩, cf⟩ := cd_cells hb
    obtain ⟨a, rfl, ha⟩ := hu.slice
    have hn3 : (L.getD i noPt).subs.length ≤ 3 := by
      rcases hT.2.1 with ⟨_, h1⟩ | ⟨_, h1⟩ | ⟨_, h1⟩ | ⟨m, _, _, h1⟩
      · rw [h1]; simp
      all_goals omega
    have hsub := forest_mem _ hT.2.2
    have HS : Hid _ := hs
    have HT : Hid _ := hsub
    have HA : Hid _ := ha
    clear hs hb hu hT hsub ha hn
    generalize hjs : (L.getD i noPt).subs = js at *
    have HJS : Hid _ := hjs
    clear hjs
    go_enter Tryz.func108, Tryz.ntmps108
    go_wp2_with fail
    go_loopw [3, 11] (fun nv kv wr => ∃ k, k ≤ js.length ∧ kv = .int .i64 k ∧ nv = .int .i64 (foldMax (dep f L) (js.take k) : Nat) ∧ Below w.heap.size w wr) (fun _ kv _ => js.length - (intOf kv).toNat)
    case atStart => exact ⟨0, Nat.zero_le _, rfl, by simp [foldMax], Below.refl _ _⟩
    case round =>
      obtain ⟨k, hk, rfl, rfl, hbw⟩ := hrel
      have hsl := foldMax_le (dep f L) (f + 1) (dep_bound f L) (js.take k)
      by_cases hlt : k < js.length
      · obtain ⟨g, rfl, hg⟩ := HA.out k hlt
        have hg' : wr.heap[g]? = _ := (hbw.block g (lt_of_get hg)).trans hg
        have hcell := under_cell hg' k hlt
        have htk := foldMax_take (dep f L) js k hlt
        obtain ⟨lo', hT'⟩ := HT.out (js.getD k 0) (by rw [List.getD_eq_getElem?_getD, List.getElem?_eq_getElem hlt]; exact List.getElem_mem hlt)
        have HI := ih hT' ((HS.out k hlt).grow hbw)
        have hxb := dep_bound f L (js.getD k 0)
        rw [show js[k] = js.getD k 0 from by rw [List.getD_eq_getElem?_getD, List.getElem?_eq_getElem hlt]; rfl] at htk
        have HTK : Hid _ := htk
        clear hg hg' hT' htk
        generalize foldMax (dep f L) (js.take k) = A at *
        generalize dep f L (js.getD k 0) = X at *
        go_wp2_with fail
        refine HI.mono ?_
        rintro e w1 ⟨rfl, hb1⟩
        clear HI
        go_wp2_with fail
        go_roundw
        case rel =>
          refine ⟨k + 1, by omega, by simp, ?_, hbw.trans (hb1.mono hbw.size)⟩
          rw [HTK.out]
          simp
          omega
        case measure => simp [intOf]; omega
      · have hke : k = js.length := by omega
        subst hke
        rw [List.take_length] at *
        go_wp2_with fail
        go_ret
        refine ⟨?_, hbw⟩
        rw [dep, HJS.out]
        exact congrArg (fun n : Int => Ending.returned (Value.int .i64 n)) (show (1 : Int) + (foldMax (dep f L) js : Nat) = ((foldMax (dep f L) js + 1 : Nat) : Int) by omega)
end Go.Proofs.YtfkdailfcmnjlaaGreatDoor

namespace Go.Proofs.YtfkdailfcmnjlaaGreatDoor
open Go Go.RowKit
set_option maxRecDepth 100000
attribute [local go_sem ↓] Go.wp_at_zero Go.wp_at_succ
variable {bs : Nat}

/-- A place, if there is a fault. -/
def plcV : Option Nat → Value
  | some p => .tuple #[.int .i64 p, .bool false]
  | none => .tuple #[.int .i64 0, .bool true]
theorem pmany_step {L : List Pt} {x : Itm} {r : List Itm} {lets i lt : Nat} (hl : lt = lets + (if x.name == [] then 0 else 1)) : manyAt L (x :: r) lets i = if 10 < lt ∨ 20 < i + 1 - lt ∨ 200 < x.parts ∨ 20 < dep (x.top + 1) L x.top then some x.pl else manyAt L r lt (i + 1) := by
  rw [manyAt, ← hl]
theorem drop_head {α : Type} {l : List α} {k : Nat} (h : k < l.length) (d : α) : l.drop k = l.getD k d :: l.drop (k + 1) := by
  rw [List.drop_eq_getElem_cons h, List.getD_eq_getElem?_getD, List.getElem?_eq_getElem h]; rfl

set_option maxHeartbeats 2000000 in
theorem beyond_any (t u : Tok) (n : Int) (b : Nat) (w : World) :
    Calls Tryz.prog 107 #[itW t u n b] w fun e w' => e = .returned (.bool (if kindOf t = 11 then decide (10 ≤ n) else decide (20 < n))) ∧ Below w.heap.size w w' := by
  unfold itW
  have HB : Hid (Below w.heap.size w (w.alloc (.cells #[.int .i64 (kindOf t), .int .i64 t.pl, .int .i64 (nmOf t), S (ownOf t), .int .i64 (kindOf u), .int .i64 u.pl, .int .i64 (nmOf u), S (ownOf u), .int .i64 n, .pointer (some ⟨b, 0, none⟩)] 163 (0, 0)))) := (Below.refl w.heap.size w).alloc (Nat.le_refl _) _
  by_cases hk : kindOf t = 11
  · have HR : Hid ((if kindOf t = 11 then decide (10 ≤ n) else decide (20 < n)) = decide (10 ≤ n)) := by show _ = _; rw [if_pos hk]
    generalize (if kindOf t = 11 then decide (10 ≤ n) else decide (20 < n)) = r at *
    rw [hk] at HB ⊢
    clear hk
    generalize t.pl = q1 at *
    generalize nmOf t = q2 at *
    generalize ownOf t = q3 at *
    generalize kindOf u = q4 at *
    generalize u.pl = q5 at *
    generalize nmOf u = q6 at *
    generalize ownOf u = q7 at *
    go_enter Tryz.func107, Tryz.ntmps107
    go_wp2_with fail
    go_ret
    exact ⟨by rw [HR.out]; rfl, HB.out⟩
  · have HR : Hid ((if kindOf t = 11 then decide (10 ≤ n) else decide (20 < n)) = decide (20 < n)) := by show _ = _; rw [if_neg hk]
    generalize (if kindOf t = 11 then decide (10 ≤ n) else decide (20 < n)) = r at *
    have hk2 : ((kindOf t : Int) == (11 : Int)) = false := by
      have : ¬ ((kindOf t : Int) = 11) := by omega
      simpa using this
    clear hk
    generalize kindOf t = q0 at *
    generalize t.pl = q1 at *
    generalize nmOf t = q2 at *
    generalize ownOf t = q3 at *
    generalize kindOf u = q4 at *
    generalize u.pl = q5 at *
    generalize nmOf u = q6 at *
    generalize ownOf u = q7 at *
    go_enter Tryz.func107, Tryz.ntmps107
    go_wp2_with fail
    go_ret
    exact ⟨by rw [HR.out]; rfl, HB.out⟩

set_option maxHeartbeats 8000000 in
theorem fit_any {L : List Pt} {N : Tok → Int → Prop} (hL : L.length ≤ 5000) {xs : List Itm} {ys : List (Tok × Tok × Nat × Int)} {base : Nat} {v : Value} {w : World} (hrow : w.ownsRow base 163 10 v ys.length (iCells ys)) (hy : ys.length ≤ 1001)
    (hit : ItemsAt (CondS bs L N w) xs ys) (htr : TreesAt L xs 0) (hnu : Numb 0 0 xs ys) :
    Calls Tryz.prog 57 #[v] w fun e w' => e = .returned (plcV (manyAt L xs 0 0)) ∧ Below w.heap.size w w' := by
  obtain ⟨a, cap, rfl, hcell⟩ := row_cells hrow
  have hlen : Hid _ := hit.len
  have HC : Hid _ := hcell
  have HT : Hid _ := hit
  have HTR : Hid _ := htr
  have HNU : Hid _ := hnu
  clear hrow hcell hit htr hnu
  go_enter Tryz.func57, Tryz.ntmps57
  go_wp2_with fail
  go_loopw [4, 9] (fun pv kv wr => ∃ k lets fr, k ≤ ys.length ∧ kv = .int .i64 k ∧ pv = .int .i64 (fr : Nat) ∧ lets ≤ k ∧ fr ≤ L.length ∧ Hid (manyAt L xs 0 0 = manyAt L (xs.drop k) lets k) ∧ Hid (TreesAt L (xs.drop k) fr) ∧ Hid (ItemsAt (CondS bs L N w) (xs.drop k) (ys.drop k)) ∧ Hid (lets ≤ 10 ∧ k - lets ≤ 20) ∧ Hid (Numb lets (k - lets) (xs.drop k) (ys.drop k)) ∧ Below w.heap.size w wr) (fun _ kv _ => ys.length - (intOf kv).toNat)
  case atStart => exact ⟨0, 0, 0, Nat.zero_le _, rfl, rfl, Nat.le_refl _, Nat.zero_le _, rfl, HTR.out, HT.out, ⟨by omega, by omega⟩, HNU.out, Below.refl _ _⟩
  case round =>
    obtain ⟨k, lets, fr, hk, rfl, rfl, hlk, hfr, HM, HTR2, HIT2, HLR, HNU2, hbw⟩ := hrel
    by_cases hlt : k < ys.length
    · have ht2 := HTR2.out
      have hi2 := HIT2.out
      have hn2 := HNU2.out
      rw [drop_head (show k < xs.length by rw [← hlen.out]; exact hlt) noItm] at ht2 hi2 hn2
      rw [drop_head (show k < xs.length by rw [← hlen.out]; exact hlt) noItm] at HM
      rw [drop_head hlt (zTok, zTok, 0, 0)] at hi2 hn2
      obtain ⟨g, rfl, hgc, hcells⟩ := HC.out k hlt
      have hgl := lt_of_get hgc.choose_spec
      generalize xs.getD k noItm = x at *
      generalize ys.getD k (zTok, zTok, 0, 0) = y at *
      obtain ⟨⟨hCd, hO⟩, hi2⟩ := hi2
      obtain ⟨hTr, hpt, ht2⟩ := ht2
      obtain ⟨t0, u0, b, wh⟩ := y
      simp only [] at hCd hO
      unfold Numb at hn2
      simp only [] at hn2
      have hct : ∀ j, j < 10 → wr.cell? ⟨g, k * 10 + j, none⟩ = (icell (t0, u0, b, wh))[j]? := fun j hj => by
        rw [hbw.cell (p := ⟨g, k * 10 + j, none⟩) hgl]; exact hcells j hj
      have c0 := hct 0 (by omega)
      have c1 := hct 1 (by omega)
      have c2 := hct 2 (by omega)
      have c3 := hct 3 (by omega)
      have c4 := hct 4 (by omega)
      have c5 := hct 5 (by omega)
      have c6 := hct 6 (by omega)
      have c7 := hct 7 (by omega)
      have c8 := hct 8 (by omega)
      have c9 := hct 9 (by omega)
      simp [icell] at c0 c1 c2 c3 c4 c5 c6 c7 c8 c9
      have hTF := hTr.fit
      have hcn := hTF.cnt
      have hle := hTF.le
      have hxl := hTF.lt
      have W1 := parts_any (N := N) hL (x.top + 1) hTF (hCd.grow (hbw.alloc hbw.size (.cells #[.int .i64 (kindOf t0), .int .i64 t0.pl, .int .i64 (nmOf t0), S (ownOf t0), .int .i64 (kindOf u0), .int .i64 u0.pl, .int .i64 (nmOf u0), S (ownOf u0), .int .i64 wh, .pointer (some ⟨b, 0, none⟩)] 163 (0, 0))))
      rw [hcn] at W1
      have WB := fun W => beyond_any t0 u0 wh b W
      unfold itW at WB
      -- which number, and what it says
      obtain ⟨lt, hlt1, hbey, hnx⟩ : ∃ lt, (lt = lets + (if x.name == [] then 0 else 1)) ∧ ((if kindOf t0 = 11 then decide (10 ≤ wh) else decide (20 < wh)) = decide (10 < lt ∨ 20 < k + 1 - lt)) ∧ Numb lt (k + 1 - lt) (xs.drop (k + 1)) (ys.drop (k + 1)) := by
        have hLR := HLR.out
        have hkl := itOf_let hO
        rcases hn2 with ⟨hn, hw, hnx⟩ | ⟨hn, hw, hnx⟩
        · have hk11 : kindOf t0 = 11 := by rcases hkl with h | h; exact h.2; exact absurd h.1 hn
          refine ⟨lets + 1, by rw [if_neg (by simpa using hn)], ?_, by rw [show k + 1 - (lets + 1) = k - lets by omega]; exact hnx⟩
          rw [if_pos hk11, hw]
          exact decide_eq_decide.2 (by omega)
        · have hk11 : kindOf t0 ≠ 11 := by rcases hkl with h | h; exact absurd hn h.1; exact h.2
          refine ⟨lets, by simp [hn], ?_, by rw [show k + 1 - lets = k - lets + 1 by omega]; exact hnx⟩
          rw [if_neg hk11, hw]
          exact decide_eq_decide.2 (by omega)
      have hltk : lt ≤ k + 1 := by rw [hlt1]; split <;> omega
      rw [hbey] at WB
      have HST : Hid _ := pmany_step (L := L) (x := x) (r := xs.drop (k + 1)) (lets := lets) (i := k) (lt := lt) hlt1
      have HNX : Hid _ := hnx
      have HTF : Hid _ := hTF
      have HCd : Hid _ := hCd
      have HTR3 : Hid _ := ht2
      have HIT3 : Hid _ := hi2
      have hp1 : t0.pl = x.pl := by unfold ItOf at hO; rcases hO with hO | hO <;> exact hO.2.2.1
      have hp0' : Hid _ := hp1
      clear hp1 hTr hTF hCd ht2 hi2 hct hcells hn2 hlt1 hbey hnx hO HNU2 HLR
      generalize kindOf t0 = kd at *
      generalize t0.pl = p0 at *
      generalize nmOf t0 = m2 at *
      generalize ownOf t0 = s3 at *
      generalize kindOf u0 = m4 at *
      generalize u0.pl = m5 at *
      generalize nmOf u0 = m6 at *
      generalize ownOf u0 = s7 at *
      go_wp2_with fail
      refine W1.mono ?_
      rintro e w1 ⟨rfl, hb1⟩
      clear W1
      have hi1 : w1.heap[wr.heap.size]? = some (.cells #[.int .i64 kd, .int .i64 p0, .int .i64 m2, S s3, .int .i64 m4, .int .i64 m5, .int .i64 m6, S s7, .int .i64 wh, .pointer (some ⟨b, 0, none⟩)] 163 (0, 0)) := (hb1.block _ (by simp)).trans (heap_alloc_new wr _)
      have hbw1 : Below w.heap.size w w1 := (hbw.alloc hbw.size _).trans (hb1.mono (by have := hbw.size; simp; omega))
      obtain ⟨⟨z0, z1, z2, z3, z4, z5, z6, z7, z8, z9⟩, zf⟩ := it_cells hi1
      have HI1 : Hid _ := hi1
      have HB1 : Hid _ := hbw1
      clear hi1 hb1 c0 c1 c2 c3 c4 c5 c6 c7 c8 c9 hbw1
      generalize hdd : dep (x.top + 1) L x.top = dd at *
      generalize wr.heap.size = bi at *
      by_cases hA : 10 < lt ∨ 20 < k + 1 - lt
      · rw [decide_eq_true hA] at WB
        go_wp2_with fail
        refine (WB _).mono ?_
        rintro e w2 ⟨rfl, hb2⟩
        have hz := (it_cells (w := w2) (b := bi) (x0 := .int .i64 kd) (x1 := .int .i64 p0) (x2 := .int .i64 m2) (x3 := S s3) (x4 := .int .i64 m4) (x5 := .int .i64 m5) (x6 := .int .i64 m6) (x7 := S s7) (x8 := .int .i64 wh) (x9 := .pointer (some ⟨b, 0, none⟩)) (by rw [hb2.block _ (lt_of_get HI1.out)]; exact HI1.out))
        clear WB z0 z1 z2 z3 z4 z5 z6 z7 z8 z9 zf
        obtain ⟨⟨z0, z1, z2, z3, z4, z5, z6, z7, z8, z9⟩, zf⟩ := hz
        have HB2 : Hid _ := HB1.out.trans (hb2.mono HB1.out.size)
        clear hb2 HI1 HB1
        go_wp2_with fail
        refine bodyPost_ret (v := .tuple #[.int .i64 p0, .bool false]) (by simp [results, Tryz.results57, go_sem]) rfl ⟨?_, HB2.out⟩
        rw [HM.out, HST.out, if_pos (by omega), hp0'.out]; rfl
      · rw [decide_eq_false hA] at WB
        go_wp2_with fail
        refine (WB _).mono ?_
        rintro e w2 ⟨rfl, hb2⟩
        have hi2 : w2.heap[bi]? = some (.cells #[.int .i64 kd, .int .i64 p0, .int .i64 m2, S s3, .int .i64 m4, .int .i64 m5, .int .i64 m6, S s7, .int .i64 wh, .pointer (some ⟨b, 0, none⟩)] 163 (0, 0)) := by rw [hb2.block _ (lt_of_get HI1.out)]; exact HI1.out
        clear WB z0 z1 z2 z3 z4 z5 z6 z7 z8 z9 zf
        obtain ⟨⟨z0, z1, z2, z3, z4, z5, z6, z7, z8, z9⟩, zf⟩ := it_cells hi2
        have hbw2 := HB1.out.trans (hb2.mono HB1.out.size)
        have W2 := pdepth_any (N := N) (x.top + 1) (by omega) HTF.out (HCd.out.grow hbw2)
        rw [hdd] at W2
        have HB2 : Hid _ := hbw2
        have HI2 : Hid _ := hi2
        clear hb2 HI1 HB1 hbw2 hi2
        by_cases hC : 200 < x.parts
        · clear W2
          go_wp2_with fail
          refine bodyPost_ret (v := .tuple #[.int .i64 p0, .bool false]) (by simp [results, Tryz.results57, go_sem]) rfl ⟨?_, HB2.out⟩
          rw [HM.out, HST.out, if_pos (by omega), hp0'.out]; rfl
        · go_wp2_with fail
          refine W2.mono ?_
          rintro e w3 ⟨rfl, hb3⟩
          clear W2
          have hz := (it_cells (w := w3) (b := bi) (x0 := .int .i64 kd) (x1 := .int .i64 p0) (x2 := .int .i64 m2) (x3 := S s3) (x4 := .int .i64 m4) (x5 := .int .i64 m5) (x6 := .int .i64 m6) (x7 := S s7) (x8 := .int .i64 wh) (x9 := .pointer (some ⟨b, 0, none⟩)) (by rw [hb3.block _ (lt_of_get HI2.out)]; exact HI2.out))
          clear z0 z1 z2 z3 z4 z5 z6 z7 z8 z9 zf
          obtain ⟨⟨z0, z1, z2, z3, z4, z5, z6, z7, z8, z9⟩, zf⟩ := hz
          have HB3 : Hid _ := HB2.out.trans (hb3.mono HB2.out.size)
          clear hb3 HI2 HB2
          by_cases hD : 20 < dd
          · go_wp2_with fail
            refine bodyPost_ret (v := .tuple #[.int .i64 p0, .bool false]) (by simp [results, Tryz.results57, go_sem]) rfl ⟨?_, HB3.out⟩
            rw [HM.out, HST.out, if_pos (by omega), hp0'.out]; rfl
          · go_wp2_with fail
            go_roundw
            case rel =>
              refine ⟨k + 1, lt, x.parts, by omega, by simp, by simp; omega, by omega, by omega, ?_, HTR3.out, HIT3.out, ⟨by omega, by omega⟩, HNX.out, HB3.out⟩
              show _ = _
              rw [HM.out, HST.out, if_neg (by omega)]
            case measure => simp [intOf]; omega
    · have hke : k = ys.length := by omega
      subst hke
      have hm : manyAt L xs 0 0 = none := by
        have := HM.out
        rw [List.drop_of_length_le (by rw [hlen.out]; exact Nat.le_refl _)] at this
        exact this
      have HM2 : Hid _ := hm
      clear hm
      go_wp2_with fail
      refine bodyPost_ret (v := .tuple #[.int .i64 0, .bool true]) (by simp [results, Tryz.results57, go_sem]) rfl ⟨?_, hbw⟩
      rw [HM2.out]; rfl
end Go.Proofs.YtfkdailfcmnjlaaGreatDoor

namespace Go.Proofs.YtfkdailfcmnjlaaGreatDoor
open Go Go.RowKit
set_option maxRecDepth 100000
attribute [local go_sem ↓] Go.wp_at_zero Go.wp_at_succ
variable {bs : Nat}

/-- A list of strings lies there. -/
def StrAt (w : World) (a : Option Addr) (l : List (List UInt8)) : Prop := ∀ j, j < l.length → ∃ g, a = some ⟨g, 0, none⟩ ∧ (∃ cs, w.heap[g]? = some (.cells cs 9 (0, 0))) ∧ w.cell? ⟨g, j, none⟩ = some (S (l.getD j []))
set_option maxHeartbeats 1000000 in
theorem strIndex_any (l : List (List UInt8)) (s : List UInt8) (a : Option Addr) (cap : Nat) (w : World) (hl : l.length ≤ 2000) (hc : StrAt w a l) :
    Calls Tryz.prog 153 #[.slice a l.length cap, S s] w fun e w' => e = .returned (.int .i64 (idx l s)) ∧ w' = w := by
  have HC : Hid _ := hc
  clear hc
  go_enter Tryz.func153, Tryz.ntmps153
  go_wp2
  go_loop [8] (fun i => ∃ k : Nat, k ≤ l.length ∧ i = .int .i64 k ∧ Hid (idx l s = (if idx (l.drop k) s < 0 then -1 else idx (l.drop k) s + k))) (fun i => l.length - (intOf i).toNat)
  case atStart =>
    refine ⟨0, Nat.zero_le _, rfl, ?_⟩
    have := idx_ge l s
    show _ = _
    simp; omega
  case round =>
    obtain ⟨k, hk, rfl, H⟩ := hrel
    by_cases hlt : k < l.length
    · obtain ⟨g, rfl, _, hcell⟩ := HC.out k hlt
      have HD : Hid _ := idx_drop l s k hlt
      have HE : Hid (l[k] = l.getD k []) := by show _ = _; rw [List.getD_eq_getElem?_getD, List.getElem?_eq_getElem hlt]; rfl
      clear HC
      generalize l.getD k [] = x at *
      have hge := idx_ge (l.drop (k + 1)) s
      by_cases hx : s = x
      · subst hx
        go_wp2
        go_ret
        refine ⟨ret_int ?_, rfl⟩
        rw [H.out, HD.out, HE.out]; simp
      · have hx2 : (s == x) = false := by simpa using hx
        have HX : Hid _ := hx
        clear hx
        go_wp2
        refine ⟨⟨k + 1, by omega, by go_num, ?_⟩, by simp [intOf]; omega⟩
        show _ = _
        have hxs : ¬ (x == s) = true := fun e => HX.out (beq_iff_eq.1 e).symm
        rw [H.out, HD.out, HE.out, if_neg hxs]
        by_cases h0 : idx (l.drop (k + 1)) s < 0
        · rw [if_pos h0, if_pos h0]; rfl
        · rw [if_neg h0, if_neg h0, if_neg (by omega)]; omega
    · go_wp2
      go_ret
      refine ⟨ret_int ?_, rfl⟩
      rw [H.out, List.drop_of_length_le (by omega)]
      simp [idx]
set_option maxHeartbeats 1000000 in
theorem strContains_any (l : List (List UInt8)) (s : List UInt8) (a : Option Addr) (cap : Nat) (w : World) (hl : l.length ≤ 2000) (hc : StrAt w a l) :
    Calls Tryz.prog 109 #[.slice a l.length cap, S s] w fun e w' => e = .returned (.bool (decide (0 ≤ idx l s))) ∧ w' = w := by
  have HI := strIndex_any l s a cap w hl hc
  clear hc
  have hge := idx_ge l s
  have hle := idx_le l s
  have hle2 : idx l s ≤ 2000 := by
    rcases hle with h | h
    · omega
    · rw [h]; simp [idx]
  clear hle
  generalize idx l s = r at *
  go_enter Tryz.func109, Tryz.ntmps109
  go_wp2_with fail
  refine HI.mono ?_
  rintro e w' ⟨rfl, rfl⟩
  clear HI
  go_wp2_with fail
  go_ret
  exact ⟨rfl, rfl⟩
end Go.Proofs.YtfkdailfcmnjlaaGreatDoor

namespace Go.Proofs.YtfkdailfcmnjlaaGreatDoor
open Go Go.RowKit
set_option maxRecDepth 100000
attribute [local go_sem ↓] Go.wp_at_zero Go.wp_at_succ
variable {bs : Nat}

/-- What naming leaves as it was: all but the notes of conditions, of which something is said. -/
structure RF (SS : Nat → Nat → List UInt8 → Int → Prop) (w w' : World) : Prop where
  os : w'.os = w.os
  tape : w'.tape = w.tape
  output : w'.output = w.output
  size : w.heap.size ≤ w'.heap.size
  block : ∀ k, k < w.heap.size → w'.heap[k]? = w.heap[k]? ∨ ∃ t u n n', w.heap[k]? = some (cdObj t u n) ∧ w'.heap[k]? = some (cdObj t u n') ∧ SS k (kindOf t) (ownOf t) n'
theorem cd_inj {t t' : Tok} {u u' : Value} {n n' : Int} (h : cdObj t u n = cdObj t' u' n') : kindOf t = kindOf t' ∧ ownOf t = ownOf t' ∧ ∀ m, cdObj t u m = cdObj t' u' m := by
  have h' := h
  unfold cdObj at h'
  simp only [Obj.cells.injEq] at h'
  obtain ⟨ha, _⟩ := h'
  have hl := congrArg Array.toList ha
  simp only [List.cons.injEq, Value.int.injEq, true_and] at hl
  obtain ⟨h1, h2, h3, h4, h5, h6, _⟩ := hl
  have e4 : ownOf t = ownOf t' := by simpa [S] using h4
  have e1 : kindOf t = kindOf t' := by exact Int.ofNat.inj h1
  refine ⟨e1, e4, fun m => ?_⟩
  unfold cdObj; rw [h1, h2, h3, e4, h5]
theorem RF.refl (SS : Nat → Nat → List UInt8 → Int → Prop) (w : World) : RF SS w w := ⟨rfl, rfl, rfl, Nat.le_refl _, fun _ _ => .inl rfl⟩
theorem RF.trans {SS : Nat → Nat → List UInt8 → Int → Prop} {w w1 w2 : World} (h : RF SS w w1) (k : RF SS w1 w2) : RF SS w w2 := by
  refine ⟨k.os.trans h.os, k.tape.trans h.tape, k.output.trans h.output, Nat.le_trans h.size k.size, fun j hj => ?_⟩
  rcases k.block j (Nat.lt_of_lt_of_le hj h.size) with e | ⟨t, u, n, n', e1, e2, e3⟩
  · rcases h.block j hj with f | ⟨t, u, n, n', f1, f2, f3⟩
    · exact .inl (e.trans f)
    · exact .inr ⟨t, u, n, n', f1, e.trans f2, f3⟩
  · rcases h.block j hj with f | ⟨t', u', m, m', f1, f2, f3⟩
    · exact .inr ⟨t, u, n, n', f.symm.trans e1, e2, e3⟩
    · rw [f2] at e1
      have hc := (cd_inj (Option.some.inj e1)).2.2 m
      exact .inr ⟨t, u, m, n', by rw [f1, hc], e2, e3⟩
theorem RF.mono {SS SS' : Nat → Nat → List UInt8 → Int → Prop} (hS : ∀ q k o n, SS q k o n → SS' q k o n) {w w' : World} (h : RF SS w w') : RF SS' w w' :=
  ⟨h.os, h.tape, h.output, h.size, fun k hk => (h.block k hk).imp id fun ⟨t, u, n, n', a, b, c⟩ => ⟨t, u, n, n', a, b, hS _ _ _ _ c⟩⟩
theorem RF.of_below {SS : Nat → Nat → List UInt8 → Int → Prop} {w w' : World} (h : Below w.heap.size w w') : RF SS w w' := ⟨h.os, h.tape, h.output, h.size, fun k hk => .inl (h.block k hk)⟩
theorem RF.drew {SS : Nat → Nat → List UInt8 → Int → Prop} {w w' : World} (h : RF SS w w') : RF SS w w'.drew := ⟨h.os, h.tape, h.output, h.size, h.block⟩
theorem RF.other {SS : Nat → Nat → List UInt8 → Int → Prop} {w w' : World} (h : RF SS w w') {k : Nat} {cs : Array Value} {ty : TypeId} {fr : Nat × Nat} (hk : w.heap[k]? = some (.cells cs ty fr)) (ht : ty ≠ 229) : w'.heap[k]? = w.heap[k]? := by
  rcases h.block k (lt_of_get hk) with e | ⟨t, u, n, n', e1, _⟩
  · exact e
  · rw [hk] at e1
    simp only [cdObj, Option.some.injEq, Obj.cells.injEq] at e1
    exact absurd e1.2.1 ht
theorem CondS.rf {L : List Pt} {N : Tok → Int → Prop} {SS : Nat → Nat → List UInt8 → Int → Prop} {w w' : World} {i b : Nat} (h : CondS bs L N w i b) (hf : RF SS w w') (hN : ∀ q t n, SS q (kindOf t) (ownOf t) n → N t n) : CondS bs L N w' i b := by
  refine h.ind (fun i b => CondS bs L N w' i b) ?_
  · intro i b u n bl hi hlo hn hb hu hs ih
    have hu' : UnderAt w' u (L.getD i noPt).subs.length bl := by
      rcases hu with hu | ⟨h0, g, h1, h2⟩
      · exact .inl hu
      · exact .inr ⟨h0, g, h1, by rw [hf.other h2 (by decide)]; exact h2⟩
    rcases hf.block b (lt_of_get hb) with e | ⟨t, u', m, m', e1, e2, e3⟩
    · exact .mk i b u n bl hi hlo hn (e.trans hb) hu' ih
    · rw [hb] at e1
      obtain ⟨k1, k2, k3⟩ := cd_inj (Option.some.inj e1)
      refine .mk i b u m' bl hi hlo (hN _ _ _ (by rw [k1, k2]; exact e3)) ?_ hu' ih
      rw [e2, k3]
theorem StrAt.rf {SS : Nat → Nat → List UInt8 → Int → Prop} {w w' : World} {a : Option Addr} {l : List (List UInt8)} (h : StrAt w a l) (hf : RF SS w w') : StrAt w' a l := by
  intro j hj
  obtain ⟨g, h1, ⟨cs, h2⟩, h3⟩ := h j hj
  have e := hf.other h2 (by decide)
  exact ⟨g, h1, ⟨cs, by rw [e]; exact h2⟩, by rw [World.cell?_of_block (w := w) e]; exact h3⟩
def SB (bs : Nat) (q _k : Nat) (_o : List UInt8) (_n : Int) : Prop := bs ≤ q
/-- What is not below a bound stays. -/
theorem RF.below {w w' : World} (h : RF (SB bs) w w') {B : Nat} (hB : B ≤ bs) (hw : B ≤ w.heap.size) : Below B w w' := ⟨h.os, h.tape, h.output, h.size, fun k hk => by
  rcases h.block k (by omega) with e | ⟨_, _, _, _, _, _, e⟩
  · exact e
  · have : bs ≤ k := e
    omega⟩
/-- A note that is not yet, or is right. -/
def N0 (ix : List UInt8 → Int) (t : Tok) (n : Int) : Prop := n = 0 ∨ (kindOf t = 2 ∧ n = ix (ownOf t))
/-- A note that is right. -/
def N1 (ix : List UInt8 → Int) (t : Tok) (n : Int) : Prop := n = if kindOf t = 2 then ix (ownOf t) else 0
def SX (bs : Nat) (ix : List UInt8 → Int) (q k : Nat) (o : List UInt8) (n : Int) : Prop := bs ≤ q ∧ k = 2 ∧ n = ix o
theorem N0_ok {ix : List UInt8 → Int} (q : Nat) (t : Tok) (n : Int) (h : SX bs ix q (kindOf t) (ownOf t) n) : N0 ix t n := .inr h.2
theorem N1_ok {ix : List UInt8 → Int} (q : Nat) (t : Tok) (n : Int) (h : SX bs ix q (kindOf t) (ownOf t) n) : N1 ix t n := by unfold N1; rw [if_pos h.2.1]; exact h.2.2
/-- What naming a condition answers. -/
def ResAns (bs : Nat) (L : List Pt) (ix : List UInt8 → Int) (w : World) (i b : Nat) (o : Option Nat) (e : Ending) (w' : World) : Prop :=
  (∃ p, o = some p ∧ e = .returned (.tuple #[.int .i64 p, .bool false]) ∧ RF (SB bs) w w') ∨
  (o = none ∧ ∃ p : Nat, e = .returned (.tuple #[.int .i64 p, .bool true]) ∧ RF (SX bs ix) w w' ∧ CondS bs L (N1 ix) w' i b)

theorem cd_set {w : World} {b : Nat} {t : Tok} {u : Value} {n : Int} (h : w.heap[b]? = some (cdObj t u n)) (m : Int) : (w.setCell ⟨b, 5, none⟩ (.int .i64 m)).heap[b]? = some (cdObj t u m) := by
  unfold cdObj at h ⊢
  rw [heap_setCell_same w b 5 _ _ _ h]; rfl
theorem RF.note {SS : Nat → Nat → List UInt8 → Int → Prop} {w : World} {b : Nat} {t : Tok} {u : Value} {n : Int} (h : w.heap[b]? = some (cdObj t u n)) (m : Int) (hS : SS b (kindOf t) (ownOf t) m) : RF SS w (w.setCell ⟨b, 5, none⟩ (.int .i64 m)) := by
  refine ⟨rfl, rfl, rfl, by simp, fun k hk => ?_⟩
  by_cases e : k = b
  · subst e; exact .inr ⟨t, u, n, m, h, cd_set h m, hS⟩
  · exact .inl (Below.heap_setCell _ _ _ _ (by simpa using e))

set_option maxHeartbeats 4000000 in
theorem cresolve_own {L : List Pt} {G : List (List UInt8)} {ix : List UInt8 → Int} (hG : G.length ≤ 2000) (hix : ∀ s, 0 ≤ idx G s → ix s = idx G s) (f : Nat) {lo i b cap : Nat} {a : Option Addr} {w : World} (hT : TreeF (f + 1) L lo i) (hC : CondS bs L (N0 ix) w i b) (hS : StrAt w a G) (ho : (L.getD i noPt).tok.k = 111) :
    Calls Tryz.prog 110 #[.pointer (some ⟨b, 0, none⟩), .slice a G.length cap] w (ResAns bs L ix w i b (resF (fun t => decide (idx G (ownOf t) < 0)) (f + 1) L i)) := by
  have hsub := shape_leaf hT.2.1 ho
  obtain ⟨u, n, bl, hi, hlo, hn, hb, hu, hs⟩ := hC.inv
  obtain ⟨⟨c0, c1, c2, c3, c4, c5⟩, cf⟩ := cd_cells hb
  have hr : resF (fun t => decide (idx G (ownOf t) < 0)) (f + 1) L i = if idx G (ownOf (L.getD i noPt).tok) < 0 then some (L.getD i noPt).tok.pl else none := by
    rw [resF, if_pos ho]; simp
  have HR : Hid _ := hr
  have hk2 := kind_two.2 ho
  rw [hk2] at c0
  generalize resF (fun t => decide (idx G (ownOf t) < 0)) (f + 1) L i = o at *
  have HI := strIndex_any G (ownOf (L.getD i noPt).tok) a cap w hG hS
  have hfail := fun h : idx G (ownOf (L.getD i noPt).tok) < 0 => RF.note (SS := SB bs) hb (idx G (ownOf (L.getD i noPt).tok)) hlo
  have hgood := fun h : 0 ≤ idx G (ownOf (L.getD i noPt).tok) => RF.note (SS := SX bs ix) hb (idx G (ownOf (L.getD i noPt).tok)) ⟨hlo, hk2, (hix _ h).symm⟩
  have hcd := cd_set hb (idx G (ownOf (L.getD i noPt).tok))
  have hnew : 0 ≤ idx G (ownOf (L.getD i noPt).tok) → CondS bs L (N1 ix) (w.setCell ⟨b, 5, none⟩ (.int .i64 (idx G (ownOf (L.getD i noPt).tok)))) i b := fun h0 =>
    .mk i b u _ bl hi hlo (by unfold N1; rw [if_pos hk2]; exact (hix _ h0).symm) hcd (by rw [hsub] at hu ⊢; rcases hu with hu | hu; exact .inl hu; simp at hu) (by rw [hsub]; intro j hj; simp at hj)
  have HF : Hid _ := hfail
  have HGo : Hid _ := hgood
  have HN : Hid _ := hnew
  have hge := idx_ge G (ownOf (L.getD i noPt).tok)
  obtain ⟨⟨d0, d1, d2, d3, d4, d5⟩, df⟩ := cd_cells hcd
  have HCD : Hid _ := hcd
  clear hr hfail hgood hnew hs hu hn hb hS hix hsub hT hcd
  have hle2 : idx G (ownOf (L.getD i noPt).tok) ≤ 2000 := by
    rcases idx_le G (ownOf (L.getD i noPt).tok) with h | h
    · omega
    · rw [h]; simp [idx]
  generalize idx G (ownOf (L.getD i noPt).tok) = r at *
  generalize (L.getD i noPt).tok.pl = p at *
  generalize ownOf (L.getD i noPt).tok = nm at *
  go_enter Tryz.func110, Tryz.ntmps110
  go_wp2_with fail
  refine HI.mono ?_
  rintro e w' ⟨rfl, rfl⟩
  clear HI
  go_wp2_with fail
  clear c0 c1 c2 c3 c4 c5 cf d0 d2 d3 d4
  have HA : Hid (ResAns bs L ix w' i b o (.returned (.tuple #[.int .i64 p, .bool (decide (0 ≤ r))])) (w'.setCell ⟨b, 5, none⟩ (.int .i64 r)).drew) := by
    by_cases h0 : r < 0
    · have e : o = some p := by rw [HR.out, if_pos h0]
      refine .inl ⟨p, e, ?_, (HF.out h0).drew⟩
      rw [decide_eq_false (by omega)]
    · have e : o = none := by rw [HR.out, if_neg h0]
      refine .inr ⟨e, p, ?_, (HGo.out (by omega)).drew, (HN.out (by omega)).keep fun _ _ _ _ _ => rfl⟩
      rw [decide_eq_true (by omega)]
  clear HR HF HGo HN HCD
  generalize w'.setCell ⟨b, 5, none⟩ (.int .i64 r) = w2 at *
  go_region_held (fun w'' => w''.cell? ⟨b, 1, none⟩ = some (.int .i64 p) ∧ w''.cell? ⟨b, 5, none⟩ = some (.int .i64 r)) (go_keep) (fail)
  go_wp2_with fail
  refine bodyPost_ret (v := .tuple #[.int .i64 p, .bool (decide (0 ≤ r))]) (by simp [results, Tryz.results110, go_sem]) rfl ?_
  exact HA.out
end Go.Proofs.YtfkdailfcmnjlaaGreatDoor

namespace Go.Proofs.YtfkdailfcmnjlaaGreatDoor
open Go Go.RowKit
set_option maxRecDepth 100000
attribute [local go_sem ↓] Go.wp_at_zero Go.wp_at_succ
variable {bs : Nat}

theorem firstOf_step (F : Nat → Option Nat) (js : List Nat) (k : Nat) (hk : k < js.length) : firstOf F (js.drop k) = match F (js.getD k 0) with | some p => some p | none => firstOf F (js.drop (k + 1)) := by
  rw [drop_head hk 0, firstOf]
  cases F (js.getD k 0) <;> rfl
set_option maxHeartbeats 8000000 in
theorem cresolve_any {L : List Pt} {G : List (List UInt8)} {ix : List UInt8 → Int} (hG : G.length ≤ 2000) (hix : ∀ s, 0 ≤ idx G s → ix s = idx G s) (f : Nat) : ∀ {lo i b cap : Nat} {a : Option Addr} {w : World}, TreeF f L lo i → CondS bs L (N0 ix) w i b → StrAt w a G →
    Calls Tryz.prog 110 #[.pointer (some ⟨b, 0, none⟩), .slice a G.length cap] w (ResAns bs L ix w i b (resF (fun t => decide (idx G (ownOf t) < 0)) f L i)) := by
  induction f with
  | zero => intro lo i b cap a w h; exact h.elim
  | succ f ih =>
    intro lo i b cap a w hT hC hS
    by_cases ho : (L.getD i noPt).tok.k = 111
    · exact cresolve_own hG hix f hT hC hS ho
    · obtain ⟨u, n, bl, hi, hlo, hn, hb, hu, hs⟩ := hC.inv
      obtain ⟨⟨c0, c1, c2, c3, c4, c5⟩, cf⟩ := cd_cells hb
      have hr : resF (fun t => decide (idx G (ownOf t) < 0)) (f + 1) L i = firstOf (resF (fun t => decide (idx G (ownOf t) < 0)) f L) (L.getD i noPt).subs := by
        rw [resF, if_neg ho]
      rw [hr]
      have hk2 : kindOf (L.getD i noPt).tok ≠ 2 := fun e => ho (kind_two.1 e)
      have hk3 : ((kindOf (L.getD i noPt).tok : Int) == (2 : Int)) = false := by
        have : ¬ ((kindOf (L.getD i noPt).tok : Int) = 2) := by omega
        simpa using this
      obtain ⟨au, eu, ha⟩ := hu.slice
      have hn3 : (L.getD i noPt).subs.length ≤ 3 := by
        rcases hT.2.1 with ⟨_, h1⟩ | ⟨_, h1⟩ | ⟨_, h1⟩ | ⟨m, _, _, h1⟩
        · rw [h1]; simp
        all_goals omega
      have hsub := forest_mem _ hT.2.2
      have hend : ∀ wr, RF (SX bs ix) w wr → (∀ j, j < (L.getD i noPt).subs.length → CondS bs L (N1 ix) wr ((L.getD i noPt).subs.getD j 0) (bl j)) → CondS bs L (N1 ix) wr i b := by
        intro wr hf hall
        have hu' : UnderAt wr u (L.getD i noPt).subs.length bl := by
          rcases hu with hu | ⟨h0, g, h1, h2⟩
          · exact .inl hu
          · exact .inr ⟨h0, g, h1, by rw [hf.other h2 (by decide)]; exact h2⟩
        have hbw : wr.heap[b]? = w.heap[b]? := by
          rcases hf.block b (lt_of_get hb) with e | ⟨t, u', m, m', e1, e2, e3⟩
          · exact e
          · rw [hb] at e1
            have := (cd_inj (Option.some.inj e1)).1
            exact absurd (this.trans e3.2.1) hk2
        refine .mk i b u n bl hi hlo ?_ (hbw.trans hb) hu' hall
        unfold N1; rw [if_neg hk2]
        rcases hn with hn | hn
        · exact hn
        · exact absurd hn.1 hk2
      subst eu
      have HEND : Hid _ := hend
      have HS : Hid _ := hs
      have HT : Hid _ := hsub
      have HA : Hid _ := ha
      have HSt : Hid _ := hS
      clear hs hb hu hT hsub ha hn hr hend hk2 ho hS
      generalize kindOf (L.getD i noPt).tok = kd at *
      generalize hjs : (L.getD i noPt).subs = js at *
      clear hjs
      have HF : Hid (∀ j, resF (fun t => decide (idx G (ownOf t) < 0)) f L j = resF (fun t => decide (idx G (ownOf t) < 0)) f L j) := fun _ => rfl
      generalize hFF : resF (fun t => decide (idx G (ownOf t) < 0)) f L = FF at *
      have ho : Hid (firstOf FF js = firstOf FF (js.drop 0)) := rfl
      generalize hoo : firstOf FF js = o at *
      clear hoo
      go_enter Tryz.func110, Tryz.ntmps110
      go_wp2_with fail
      go_loopw [41] (fun kv wr => ∃ k, k ≤ js.length ∧ kv = .int .i64 k ∧ Hid (o = firstOf FF (js.drop k)) ∧ Hid (∀ j, j < k → CondS bs L (N1 ix) wr (js.getD j 0) (bl j)) ∧ RF (SX bs ix) w wr) (fun kv _ => js.length - (intOf kv).toNat)
      case atStart => exact ⟨0, Nat.zero_le _, rfl, ho, fun j hj => by omega, RF.refl _ _⟩
      case round =>
        obtain ⟨k, hk, rfl, HO, HD, hf⟩ := hrel
        by_cases hlt : k < js.length
        · obtain ⟨g, rfl, hg⟩ := HA.out k hlt
          have hg' : wr.heap[g]? = _ := (hf.other hg (by decide)).trans hg
          have hcell := under_cell hg' k hlt
          have hst : Hid _ := firstOf_step FF js k hlt
          obtain ⟨lo', hT'⟩ := HT.out (js.getD k 0) (by rw [List.getD_eq_getElem?_getD, List.getElem?_eq_getElem hlt]; exact List.getElem_mem hlt)
          have HI := ih (cap := cap) hT' ((HS.out k hlt).rf hf N0_ok) (StrAt.rf HSt.out hf)
          clear hg hg' hT' hFF
          go_wp2_with fail
          refine HI.mono ?_
          rintro e w1 (⟨p, hp, rfl, hf1⟩ | ⟨hp, p, rfl, hf1, hC1⟩)
          · have HP : Hid _ := hp
            clear HI hp
            go_wp2_with fail
            refine bodyPost_ret (v := .tuple #[.int .i64 p, .bool false]) (by simp [results, Tryz.results110, go_sem]) rfl ?_
            refine .inl ⟨p, ?_, rfl, (hf.mono fun _ _ _ _ h => h.1).trans hf1⟩
            rw [HO.out, hst.out, HP.out]
          · have HP : Hid _ := hp
            have HC1 : Hid _ := hC1
            clear HI hp hC1
            go_wp2_with fail
            go_roundw
            case rel =>
              refine ⟨k + 1, by omega, by simp, ?_, ?_, hf.trans hf1⟩
              · show _ = _
                rw [HO.out, hst.out, HP.out]
              · intro j hj
                by_cases e : j = k
                · subst e; exact HC1.out
                · exact (HD.out j (by omega)).rf hf1 N1_ok
            case measure => simp [intOf]; omega
        · have hke : k = js.length := by omega
          subst hke
          have hno : Hid (o = none) := by
            have := HO.out
            rw [List.drop_of_length_le (Nat.le_refl _)] at this
            exact this
          have HA : Hid (ResAns bs L ix w i b o (.returned (.tuple #[.int .i64 0, .bool true])) wr) := .inr ⟨hno.out, 0, rfl, hf, HEND.out wr hf HD.out⟩
          clear HD HEND
          go_wp2_with fail
          refine bodyPost_ret (v := .tuple #[.int .i64 0, .bool true]) (by simp [results, Tryz.results110, go_sem]) rfl ?_
          exact HA.out
end Go.Proofs.YtfkdailfcmnjlaaGreatDoor

namespace Go.Proofs.YtfkdailfcmnjlaaGreatDoor
open Go Go.RowKit
set_option maxRecDepth 100000
attribute [local go_sem ↓] Go.wp_at_zero Go.wp_at_succ
variable {bs : Nat}

theorem info_str : (Tryz.prog.info? 9).map (fun i => (i.zero, i.size, i.bytes)) = some (some (.string ⟨#[]⟩), 1, 16) := by kernel_rfl

theorem RF.grown {SS : Nat → Nat → List UInt8 → Int → Prop} {w wr w' : World} {row : Option Nat} (h : RF SS w wr) (hg : wr.grownBy w' row) (hr : ∀ k, row = some k → w.heap.size ≤ k) : RF SS w w' :=
  ⟨hg.os.trans h.os, hg.tape.trans h.tape, hg.output.trans h.output, Nat.le_trans h.size hg.size, fun k hk => by
    have e := hg.block k (Nat.lt_of_lt_of_le hk h.size) (fun e => by have := hr k e.symm; omega)
    rcases h.block k hk with f | ⟨t, u, n, n', f1, f2, f3⟩
    · exact .inl (e.trans f)
    · exact .inr ⟨t, u, n, n', f1, e.trans f2, f3⟩⟩
theorem RF.alloc {SS : Nat → Nat → List UInt8 → Int → Prop} {w wr : World} (h : RF SS w wr) (o : Obj) : RF SS w (wr.alloc o) :=
  h.trans (RF.of_below ((Below.refl _ _).alloc (Nat.le_refl _) o))
/-- A row of strings. -/
theorem str_row {w : World} {base : Nat} {v : Value} {l : List (List UInt8)} (h : w.ownsRow base 9 1 v l.length (l.map S)) : ∃ a cap, v = .slice a l.length cap ∧ StrAt w a l := by
  obtain ⟨hl, h⟩ := h
  rcases h with ⟨rfl, h0⟩ | ⟨g, cap, cur, rfl, hb, hg, h1, h2, h3, h4⟩
  · exact ⟨none, 0, by rw [h0], fun k hk => by omega⟩
  · refine ⟨_, cap, rfl, fun k hk => ⟨g, rfl, ⟨cur, hg⟩, ?_⟩⟩
    rw [cell_of_row w g k _ _ _ hg]
    have e1 : cur[k]? = (cur.toList.take (l.length * 1))[k]? := by
      rw [List.getElem?_take_of_lt (by omega)]; simp
    rw [e1, h4]
    simp [hk, List.getD_eq_getElem?_getD]
theorem str_block {w : World} {base : Nat} {v : Value} {n : Nat} {xs : List Value} (h : w.ownsRow base 9 1 v n xs) {k : Nat} (hk : v.ownBlock = some k) : base ≤ k ∧ ∃ cs, w.heap[k]? = some (.cells cs 9 (0, 0)) := by
  rcases h.2 with ⟨rfl, _⟩ | ⟨g, cap, cur, rfl, hb, hg, _⟩
  · simp [Value.ownBlock] at hk
  · simp [Value.ownBlock] at hk; subst hk; exact ⟨hb, cur, hg⟩
theorem CondS.grownStr {L : List Pt} {N : Tok → Int → Prop} {w w' : World} {i b : Nat} (h : CondS bs L N w i b) {base : Nat} {v : Value} {n : Nat} {xs : List Value} (hr : w.ownsRow base 9 1 v n xs) (hg : w.grownBy w' v.ownBlock) : CondS bs L N w' i b :=
  h.keep fun k cs ty hk ht => hg.block k (lt_of_get hk) fun e => by
    obtain ⟨_, cs', hc⟩ := str_block hr e.symm
    rw [hk] at hc
    simp only [Option.some.injEq, Obj.cells.injEq] at hc
    rw [hc.2.1] at ht
    exact absurd ht (by decide)
theorem ownsRow_rf {SS : Nat → Nat → List UInt8 → Int → Prop} {w w' : World} {base : Nat} {e : TypeId} {size : Nat} {v : Value} {n : Nat} {xs : List Value} (h : w.ownsRow base e size v n xs) (he : e ≠ 229) (hf : RF SS w w') : w'.ownsRow base e size v n xs := by
  obtain ⟨h1, h2⟩ := h
  refine ⟨h1, ?_⟩
  rcases h2 with h2 | ⟨g, cap, cur, a, b, c, d⟩
  · exact .inl h2
  · exact .inr ⟨g, cap, cur, a, b, by rw [hf.other c he]; exact c, d⟩
theorem ItemsAt.rf {L : List Pt} {N : Tok → Int → Prop} {SS : Nat → Nat → List UInt8 → Int → Prop} {w w' : World} (hf : RF SS w w') (hN : ∀ q t n, SS q (kindOf t) (ownOf t) n → N t n) {xs : List Itm} {ys : List (Tok × Tok × Nat × Int)} (h : ItemsAt (CondS bs L N w) xs ys) : ItemsAt (CondS bs L N w') xs ys :=
  h.mono fun _ _ h => h.rf hf hN
theorem take_snoc {α : Type} {l : List α} {k : Nat} (h : k < l.length) (d : α) : l.take (k + 1) = l.take k ++ [l.getD k d] := by
  rw [List.take_succ_eq_append_getElem h, List.getD_eq_getElem?_getD, List.getElem?_eq_getElem h]; rfl

/-- What naming a policy answers. -/
def NamAns (bs : Nat) (L : List Pt) (ix : List UInt8 → Int) (xs : List Itm) (ys : List (Tok × Tok × Nat × Int)) (w : World) (e : Ending) (w' : World) : Prop :=
  (∃ p, namesAt xs L xs 0 0 = some p ∧ e = .returned (.tuple #[.int .i64 p, .bool false]) ∧ RF (SB bs) w w') ∨
  (namesAt xs L xs 0 0 = none ∧ e = .returned (.tuple #[.int .i64 0, .bool true]) ∧ RF (SX bs ix) w w' ∧ ItemsAt (CondS bs L (N1 ix) w') xs ys)

set_option maxHeartbeats 8000000 in
theorem resolve_any {L : List Pt} (hL : PartsOK L) {xs : List Itm} {ys : List (Tok × Tok × Nat × Int)} {base : Nat} {v : Value} {w : World} (hrow : w.ownsRow base 163 10 v ys.length (iCells ys)) (hy : ys.length ≤ 1001)
    (hit : ItemsAt (CondS bs L (N0 (idx (giv xs))) w) xs ys) (htr : TreesAt L xs 0) :
    Calls Tryz.prog 58 #[v] w (NamAns bs L (idx (giv xs)) xs ys w) := by
  obtain ⟨a, cap, rfl, hcell⟩ := row_cells hrow
  obtain ⟨i0, hi, hz0, hz1, hz2⟩ := info_parts info_str
  have hlen : Hid _ := hit.len
  have HC : Hid _ := hcell
  have HT : Hid _ := hit
  have HTR : Hid _ := htr
  have HL : Hid _ := hL
  clear hrow hcell hit htr hL
  go_enter Tryz.func58, Tryz.ntmps58
  go_wp2_with fail
  go_loopw [4, 11] (fun gv kv wr => ∃ k fr, k ≤ ys.length ∧ kv = .int .i64 k ∧ Hid (namesAt xs L xs 0 0 = namesAt xs L (xs.drop k) fr k) ∧ Hid (TreesAt L (xs.drop k) fr) ∧ Hid (ItemsAt (CondS bs L (N0 (idx (giv xs))) w) (xs.drop k) (ys.drop k)) ∧ Hid (ItemsAt (CondS bs L (N1 (idx (giv xs))) wr) (xs.take k) (ys.take k)) ∧ wr.ownsRow w.heap.size 9 1 gv (giv (xs.take k)).length ((giv (xs.take k)).map S) ∧ RF (SX bs (idx (giv xs))) w wr) (fun _ kv _ => ys.length - (intOf kv).toNat)
  case atStart => exact ⟨0, 0, Nat.zero_le _, rfl, rfl, HTR.out, HT.out, trivial, World.ownsRow_nil _ _ _ _, RF.refl _ _⟩
  case round =>
    obtain ⟨k, fr, hk, rfl, HM, HTR2, HIT2, HDN, hown, hf⟩ := hrel
    by_cases hlt : k < ys.length
    · have hltx : k < xs.length := by rw [← hlen.out]; exact hlt
      have hgl := giv_len (xs.take k)
      have hgl2 : (giv (xs.take k)).length ≤ k := Nat.le_trans hgl (by simp; omega)
      have ht2 := HTR2.out
      have hi2 := HIT2.out
      rw [drop_head hltx noItm] at ht2 hi2
      rw [drop_head hltx noItm] at HM
      rw [drop_head hlt (zTok, zTok, 0, 0)] at hi2
      obtain ⟨g, rfl, ⟨gcs, hgc⟩, hcells⟩ := HC.out k hlt
      have HTX : Hid _ := take_snoc hltx noItm
      have HTY : Hid _ := take_snoc hlt (zTok, zTok, 0, 0)
      generalize xs.getD k noItm = x at *
      generalize ys.getD k (zTok, zTok, 0, 0) = y at *
      obtain ⟨⟨hCd, hO⟩, hi2⟩ := hi2
      obtain ⟨hTr, hpt, ht2⟩ := ht2
      obtain ⟨t0, u0, b, wh⟩ := y
      simp only [] at hCd hO
      have hgw : wr.heap[g]? = w.heap[g]? := hf.other hgc (by decide)
      have hct : ∀ j, j < 10 → wr.cell? ⟨g, k * 10 + j, none⟩ = (icell (t0, u0, b, wh))[j]? := fun j hj => by
        rw [World.cell?_of_block (w := w) (a := ⟨g, k * 10 + j, none⟩) hgw]; exact hcells j hj
      have c0 := hct 0 (by omega)
      have c1 := hct 1 (by omega)
      have c2 := hct 2 (by omega)
      have c3 := hct 3 (by omega)
      have c4 := hct 4 (by omega)
      have c5 := hct 5 (by omega)
      have c6 := hct 6 (by omega)
      have c7 := hct 7 (by omega)
      have c8 := hct 8 (by omega)
      have c9 := hct 9 (by omega)
      simp [icell] at c0 c1 c2 c3 c4 c5 c6 c7 c8 c9
      have hTF := hTr.fit
      have HST : Hid _ := names_item (xs := xs) HL.out (r := xs.drop (k + 1)) (i := k) hTr hpt
      obtain ⟨ag, capg, rfl, hSt⟩ := str_row hown
      have hf0 := hf.alloc (.cells #[.int .i64 (kindOf t0), .int .i64 t0.pl, .int .i64 (nmOf t0), S (ownOf t0), .int .i64 (kindOf u0), .int .i64 u0.pl, .int .i64 (nmOf u0), S (ownOf u0), .int .i64 wh, .pointer (some ⟨b, 0, none⟩)] 163 (0, 0))
      have hb0 : RF (SX bs (idx (giv xs))) wr (wr.alloc (.cells #[.int .i64 (kindOf t0), .int .i64 t0.pl, .int .i64 (nmOf t0), S (ownOf t0), .int .i64 (kindOf u0), .int .i64 u0.pl, .int .i64 (nmOf u0), S (ownOf u0), .int .i64 wh, .pointer (some ⟨b, 0, none⟩)] 163 (0, 0))) := (RF.refl _ _).alloc _
      have hG2 : (giv (xs.take k)).length ≤ 2000 := by omega
      have W2 := cresolve_any (L := L) (ix := idx (giv xs)) (cap := capg) hG2 (fun s h => giv_keep k h) (x.top + 1) hTF (hCd.rf hf0 N0_ok) (StrAt.rf hSt hb0)
      rw [resF_congr (bad' := badOf xs k) (fun q hq ho => by
        have e1 : ownOf (L.getD q noPt).tok = (L.getD q noPt).tok.text := by unfold ownOf; rw [if_pos ho]
        have e2 := giv_ix _ (HL.out.own q hq ho) xs k
        unfold badOf
        rw [e1, Bool.eq_iff_iff]; simpa using e2) (x.top + 1) hTF] at W2
      have W1 := strContains_any (giv (xs.take k)) (ownOf u0) ag capg _ hG2 (StrAt.rf hSt hb0)
      have hown0 := ownsRow_rf hown (by decide) hb0
      have hit0 : Hid (ItemsAt (CondS bs L (N1 (idx (giv xs))) (wr.alloc (.cells #[.int .i64 (kindOf t0), .int .i64 t0.pl, .int .i64 (nmOf t0), S (ownOf t0), .int .i64 (kindOf u0), .int .i64 u0.pl, .int .i64 (nmOf u0), S (ownOf u0), .int .i64 wh, .pointer (some ⟨b, 0, none⟩)] 163 (0, 0)))) (xs.take k) (ys.take k)) := HDN.out.rf hb0 N1_ok
      have hz0' : (wr.alloc (.cells #[.int .i64 (kindOf t0), .int .i64 t0.pl, .int .i64 (nmOf t0), S (ownOf t0), .int .i64 (kindOf u0), .int .i64 u0.pl, .int .i64 (nmOf u0), S (ownOf u0), .int .i64 wh, .pointer (some ⟨b, 0, none⟩)] 163 (0, 0))).heap[wr.heap.size]? = _ := heap_alloc_new wr _
      have HTR3 : Hid _ := ht2
      have HIT3 : Hid _ := hi2
      have HO : Hid (ItOf x t0 u0) := hO
      have hFw : Hid _ := hf0
      have hOwn : Hid _ := hown0
      unfold ItOf at hO
      clear hTr hTF hCd ht2 hi2 hct hcells hSt hf hown HDN hf0 hb0 hgw hgc HTR2 HIT2 hown0 HTR HT
      generalize hkd0 : kindOf t0 = kd at *
      generalize hu1 : u0.pl = m5 at *
      generalize hu2 : ownOf u0 = s7 at *
      generalize t0.pl = p0 at *
      generalize nmOf t0 = m2 at *
      generalize ownOf t0 = s3 at *
      generalize kindOf u0 = m4 at *
      generalize nmOf u0 = m6 at *
      rcases hO with hO | hO
      · have hkd : kd = 11 := hO.2.1
        subst hkd
        have hne := hO.1
        have e5 : m5 = x.named := hO.2.2.2.2.1
        have e7 : s7 = x.name := hO.2.2.2.2.2.1
        have HNE : Hid _ := hne
        have HE5 : Hid _ := e5
        have HE7 : Hid _ := e7
        clear hO hne e5 e7 hkd0 hu1 hu2
        by_cases hdup : 0 ≤ idx (giv (xs.take k)) s7
        · rw [decide_eq_true hdup] at W1
          have HA : Hid (NamAns bs L (idx (giv xs)) xs ys w (.returned (.tuple #[.int .i64 m5, .bool false])) (wr.alloc (.cells #[.int .i64 11, .int .i64 p0, .int .i64 m2, S s3, .int .i64 m4, .int .i64 m5, .int .i64 m6, S s7, .int .i64 wh, .pointer (some ⟨b, 0, none⟩)] 163 (0, 0)))) := by
            refine .inl ⟨m5, ?_, rfl, hFw.out.mono fun _ _ _ _ h => h.1⟩
            rw [HM.out, HST.out, if_pos ⟨HNE.out, by rw [← HE7.out]; exact hdup⟩, HE5.out]
          obtain ⟨⟨z0, z1, z2, z3, z4, z5, z6, z7, z8, z9⟩, zf⟩ := it_cells hz0'
          clear W2 hz0' hdup
          go_wp2_with fail
          refine W1.mono ?_
          rintro e w' ⟨rfl, rfl⟩
          clear W1
          go_wp2_with fail
          refine bodyPost_ret (v := .tuple #[.int .i64 m5, .bool false]) (by simp [results, Tryz.results58, go_sem]) rfl ?_
          exact HA.out
        · rw [decide_eq_false hdup] at W1
          have hst2 : Hid (namesAt xs L xs 0 0 = (resF (badOf xs k) (x.top + 1) L x.top).or (namesAt xs L (xs.drop (k + 1)) x.parts (k + 1))) := by
            show _ = _
            rw [HM.out, HST.out, if_neg (fun e => hdup (by rw [HE7.out]; exact e.2))]
          obtain ⟨⟨z0, z1, z2, z3, z4, z5, z6, z7, z8, z9⟩, zf⟩ := it_cells hz0'
          have HZ : Hid _ := hz0'
          clear hz0' hdup
          generalize resF (badOf xs k) (x.top + 1) L x.top = ro at *
          go_wp2_with fail
          refine W1.mono ?_
          rintro e w' ⟨rfl, rfl⟩
          clear W1
          go_wp2_with fail
          refine W2.mono ?_
          rintro e w1 (⟨q, hq, rfl, hf1⟩ | ⟨hq, q, rfl, hf1, hC1⟩)
          · have HQ : Hid _ := hq
            clear W2 hq z0 z1 z2 z3 z4 z5 z6 z7 z8 z9 zf
            go_wp2_with fail
            refine bodyPost_ret (v := .tuple #[.int .i64 q, .bool false]) (by simp [results, Tryz.results58, go_sem]) rfl ?_
            refine .inl ⟨q, ?_, rfl, (hFw.out.mono fun _ _ _ _ h => h.1).trans hf1⟩
            rw [hst2.out, HQ.out]; rfl
          · have HQ : Hid _ := hq
            have HC1 : Hid _ := hC1
            have hz1' : w1.heap[wr.heap.size]? = _ := (hf1.other HZ.out (by decide)).trans HZ.out
            have hown1 := ownsRow_rf hOwn.out (by decide) hf1
            have hF1 : Hid _ := hFw.out.trans hf1
            have hD1 : Hid _ := hit0.out.rf hf1 N1_ok
            have hs1 := hf1.size
            have hs0 := hFw.out.size
            clear W2 hq hC1 z0 z1 z2 z3 z4 z5 z6 z7 z8 z9 zf HZ hOwn hFw hit0 hf1
            obtain ⟨⟨z0, z1, z2, z3, z4, z5, z6, z7, z8, z9⟩, zf⟩ := it_cells hz1'
            clear hz1'
            simp only [World.size_alloc] at hs0 hs1
            generalize wr.heap.size = bi at *
            generalize hGl : giv (xs.take k) = G at *
            go_wp2_with (
              at_builtin
              go_must (refine wpList_append_lies _ (by rfl) _ _ 131 (by rfl) w.heap.size 9 i0 (.string ⟨#[]⟩) 1 16 Tryz.underlying131 hi hz0 hz1 hz2 (by rfl) (by decide) _ _ _ (by rfl) (hown1.alloc _) ⟨w1.heap.size, 0, none⟩ 1 1 [S s7] (by rfl) (by rfl) (World.news_of_block (heap_alloc_new w1 _)) (fun x hx => by simp at hx; rcases hx with rfl; rfl) (by decide) (by unfold maxLen; omega) (by omega) (by simp; omega) _ rfl ?_)
              intro g3 cap3 w3 hown3 hgrow3 hat hlt3)
            have hrowb : ∀ q, (Value.slice ag G.length capg).ownBlock = some q → w.heap.size ≤ q := fun q hq => (str_block hown1 hq).1
            refine ⟨⟨k + 1, x.parts, by omega, by simp, ?_, HTR3.out, HIT3.out, ?_, ?_, (hF1.out.alloc _).grown hgrow3 hrowb⟩, by simp [intOf]; omega⟩
            · show _ = _
              rw [hst2.out, HQ.out]; rfl
            · show ItemsAt _ _ _
              rw [HTX.out, HTY.out]
              exact ItemsAt.snoc ((HC1.out.grow ((Below.refl _ _).alloc (Nat.le_refl _) _)).grownStr (hown1.alloc _) hgrow3) HO.out (hD1.out.mono fun i b h => (h.grow ((Below.refl _ _).alloc (Nat.le_refl _) _)).grownStr (hown1.alloc _) hgrow3)
            · have e : giv (xs.take (k + 1)) = G ++ [s7] := by rw [HTX.out, giv_snoc, if_neg HNE.out, hGl, HE7.out]
              rw [e]; simpa using hown3
      · have hkd : ((kd : Int) == (11 : Int)) = false := by
          have h1 := hO.2.1
          have : ¬ ((kd : Int) = 11) := by split at h1 <;> omega
          simpa using this
        have HNE : Hid _ := hO.1
        clear hO hkd0 hu1 hu2 W1
        have hst2 : Hid (namesAt xs L xs 0 0 = (resF (badOf xs k) (x.top + 1) L x.top).or (namesAt xs L (xs.drop (k + 1)) x.parts (k + 1))) := by
          show _ = _
          rw [HM.out, HST.out, if_neg (fun e => e.1 HNE.out)]
        obtain ⟨⟨z0, z1, z2, z3, z4, z5, z6, z7, z8, z9⟩, zf⟩ := it_cells hz0'
        have HZ : Hid _ := hz0'
        clear hz0'
        generalize resF (badOf xs k) (x.top + 1) L x.top = ro at *
        go_wp2_with fail
        refine W2.mono ?_
        rintro e w1 (⟨q, hq, rfl, hf1⟩ | ⟨hq, q, rfl, hf1, hC1⟩)
        · have HQ : Hid _ := hq
          clear W2 hq z0 z1 z2 z3 z4 z5 z6 z7 z8 z9 zf
          go_wp2_with fail
          refine bodyPost_ret (v := .tuple #[.int .i64 q, .bool false]) (by simp [results, Tryz.results58, go_sem]) rfl ?_
          refine .inl ⟨q, ?_, rfl, (hFw.out.mono fun _ _ _ _ h => h.1).trans hf1⟩
          rw [hst2.out, HQ.out]; rfl
        · have HQ : Hid _ := hq
          have HC1 : Hid _ := hC1
          have hz1' : w1.heap[wr.heap.size]? = _ := (hf1.other HZ.out (by decide)).trans HZ.out
          have hown1 := ownsRow_rf hOwn.out (by decide) hf1
          have hF1 : Hid _ := hFw.out.trans hf1
          have hD1 : Hid _ := hit0.out.rf hf1 N1_ok
          clear W2 hq hC1 z0 z1 z2 z3 z4 z5 z6 z7 z8 z9 zf HZ hOwn hFw hit0 hf1
          obtain ⟨⟨z0, z1, z2, z3, z4, z5, z6, z7, z8, z9⟩, zf⟩ := it_cells hz1'
          clear hz1'
          generalize wr.heap.size = bi at *
          go_wp2_with fail
          refine ⟨⟨k + 1, x.parts, by omega, by simp, ?_, HTR3.out, HIT3.out, ?_, ?_, hF1.out⟩, by simp [intOf]; omega⟩
          · show _ = _
            rw [hst2.out, HQ.out]; rfl
          · show ItemsAt _ _ _
            rw [HTX.out, HTY.out]
            exact ItemsAt.snoc HC1.out HO.out hD1.out
          · have e : giv (xs.take (k + 1)) = giv (xs.take k) := by rw [HTX.out, giv_snoc, if_pos HNE.out]
            rw [e]; exact hown1
    · have hke : k = ys.length := by omega
      subst hke
      have hm : namesAt xs L xs 0 0 = none := by
        have := HM.out
        rw [List.drop_of_length_le (by rw [hlen.out]; exact Nat.le_refl _)] at this
        exact this
      have hd := HDN.out
      rw [List.take_length, List.take_of_length_le (by rw [hlen.out]; exact Nat.le_refl _)] at hd
      have HA : Hid (NamAns bs L (idx (giv xs)) xs ys w (.returned (.tuple #[.int .i64 0, .bool true])) wr) := .inr ⟨hm, rfl, hf, hd⟩
      clear hm hd HDN
      go_wp2_with fail
      refine bodyPost_ret (v := .tuple #[.int .i64 0, .bool true]) (by simp [results, Tryz.results58, go_sem]) rfl ?_
      exact HA.out
end Go.Proofs.YtfkdailfcmnjlaaGreatDoor

namespace Go.Proofs.YtfkdailfcmnjlaaGreatDoor
open Go Go.RowKit
set_option maxRecDepth 100000
attribute [local go_sem ↓] Go.wp_at_zero Go.wp_at_succ
variable {bs : Nat}

/-- A list of numbers lies there. -/
def TyAt (w : World) (a : Option Addr) (l : List Nat) : Prop := ∀ j, j < l.length → ∃ g, a = some ⟨g, 0, none⟩ ∧ w.cell? ⟨g, j, none⟩ = some (.int .i64 (l.getD j 0))
theorem TyAt.grow {w w' : World} {a : Option Addr} {l : List Nat} (h : TyAt w a l) (hb : Below w.heap.size w w') : TyAt w' a l := fun j hj => by
  obtain ⟨g, h1, h2⟩ := h j hj
  exact ⟨g, h1, by rw [hb.cell (p := ⟨g, j, none⟩) (World.block_lt_of_cell? w _ h2)]; exact h2⟩
theorem tcode_le (c : UInt8) : tcode c ≤ 3 := by unfold tcode; split; omega; split; omega; split <;> omega

theorem shape_kind {p : Pt} (h : Shape p) (hn : p.subs ≠ []) : (kindOf p.tok = 6 ∨ kindOf p.tok = 7 ∨ kindOf p.tok = 9 ∨ kindOf p.tok = 10 ∨ kindOf p.tok = 17 ∨ kindOf p.tok = 18 ∨ kindOf p.tok = 19 ∨ kindOf p.tok = 8 ∨ kindOf p.tok = 14) ∧ (kindOf p.tok = 14 → p.subs.length = 3) := by
  rcases h with ⟨_, h⟩ | ⟨h, hl⟩ | ⟨h, hl⟩ | ⟨n, _, h, hl⟩
  · exact absurd h hn
  · obtain ⟨e, hk⟩ := isW_text h
    rw [kind_word hk, e]; exact ⟨by decide, fun e => absurd e (by decide)⟩
  · obtain ⟨e, hk⟩ := isW_text h
    rw [kind_word hk, e]; exact ⟨by decide, fun _ => hl⟩
  · obtain ⟨e, hk⟩ := joins_text h
    rw [kind_word hk]
    have key : ∀ x ∈ ([[43], [45], [60], [60, 61], [61], [111, 114], [97, 110, 100]] : List (List UInt8)), (kn x = 6 ∨ kn x = 7 ∨ kn x = 9 ∨ kn x = 10 ∨ kn x = 17 ∨ kn x = 18 ∨ kn x = 19 ∨ kn x = 8 ∨ kn x = 14) ∧ kn x ≠ 14 := by decide
    exact ⟨(key _ e).1, fun h => absurd h (key _ e).2⟩

set_option maxHeartbeats 4000000 in
theorem typeOf_own {L : List Pt} {xs : List Itm} {its : List UInt8} {lts : List Nat} {f lo i b cap : Nat} {a : Option Addr} {w : World} (hT : TreeF (f + 1) L lo i) (hC : CondS bs L (N1 (idx (giv xs))) w i b) (hS : TyAt w a lts) (hll : lts.length ≤ 1001) (ho : (L.getD i noPt).tok.k = 111)
    (h0 : 0 ≤ idx (giv xs) (L.getD i noPt).tok.text) (h1 : (idx (giv xs) (L.getD i noPt).tok.text).toNat < lts.length) (h2 : lts.getD (idx (giv xs) (L.getD i noPt).tok.text).toNat 0 = tcode (tyOf xs its L (f + 1) i)) :
    Calls Tryz.prog 111 #[.pointer (some ⟨b, 0, none⟩), .slice a lts.length cap] w fun e w' => e = .returned (.int .i64 (tcode (tyOf xs its L (f + 1) i))) ∧ Below w.heap.size w w' := by
  obtain ⟨u, n, bl, hi, hlo, hn, hb, hu, hs⟩ := hC.inv
  obtain ⟨⟨c0, c1, c2, c3, c4, c5⟩, cf⟩ := cd_cells hb
  have hk2 := kind_two.2 ho
  rw [hk2] at c0
  have en : n = idx (giv xs) (L.getD i noPt).tok.text := by
    unfold N1 at hn; rw [if_pos hk2] at hn
    have e1 : ownOf (L.getD i noPt).tok = (L.getD i noPt).tok.text := by unfold ownOf; rw [if_pos ho]
    rw [e1] at hn; exact hn
  rw [← en] at h0 h1 h2
  obtain ⟨g, rfl, hcell⟩ := hS _ h1
  rw [h2] at hcell
  obtain ⟨m, rfl⟩ : ∃ m : Nat, n = m := ⟨n.toNat, by omega⟩
  have hm : (m : Int).toNat = m := by omega
  rw [hm] at h1 hcell
  clear hS hT hb hu hs hn en h2 h0 hk2 ho hm
  generalize tcode (tyOf xs its L (f + 1) i) = r at *
  go_enter Tryz.func111, Tryz.ntmps111
  go_wp2_with fail
  go_ret
  exact ⟨rfl, Below.refl _ _⟩
end Go.Proofs.YtfkdailfcmnjlaaGreatDoor
