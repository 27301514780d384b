/-
  The reference's method 'level' answers as the plain reader does at the levels that are chains, if what it calls does. The reference's recursive methods answer as the plain reader does; its method 'item'. The reference's method 'item' at rules. The reference's method 'item' at rules: deny; and where no if follows.
-/
import Derived.Test.YtfkdailfcmnjlaaGreatDoorCompiles01
import Derived.Test.YtfkdailfcmnjlaaGreatDoorCompiles04
import Derived.Test.YtfkdailfcmnjlaaGreatDoorCompiles05
import Derived.Test.YtfkdailfcmnjlaaGreatDoorCompiles06
import Derived.Test.YtfkdailfcmnjlaaGreatDoorCompiles07
import Derived.Test.YtfkdailfcmnjlaaGreatDoorCompiles08
import Derived.Test.YtfkdailfcmnjlaaGreatDoorCompiles09
import Derived.Test.YtfkdailfcmnjlaaGreatDoorCompiles10
import Derived.WalkKit
import Derived.Deep.QuietTactic
import Derived.BigQuiet
import Derived.WalkSpells
import GoSem.Op.String
import Derived.Deep.AppendLies
import Derived.Deep.RegionHeld3
import Derived.Deep.DrawnRows
import Derived.Deep.RegionHeldLaw
import Derived.Deep.RegionLaw
set_option linter.unusedVariables false
set_option linter.unusedSimpArgs false
namespace Go.Proofs.YtfkdailfcmnjlaaGreatDoor
open Go Go.RowKit
set_option maxRecDepth 100000
attribute [local go_sem ↓] Go.wp_at_zero Go.wp_at_succ

/-- The place that a reader in memory stands at. -/
def rdI (rb : Nat) (w : World) : Nat := match w.cell? ⟨rb, 1, none⟩ with
  | some v => (intOf v).toNat
  | none => 0
theorem rdI_eq {B rb gl cl : Nat} {ts : List Tok} {s : St} {w : World} (h : RS B rb gl cl ts s w) : rdI rb w = s.i := by
  unfold rdI; rw [h.cells.2.1]; simp [intOf]

theorem signsOf_len (n : Nat) : (signsOf n).length ≤ 1000 := by unfold signsOf; split; decide; split; decide; split <;> decide
/-- What holds at the head of a chain's loop. -/
def AtLoop (f : Nat) (B rb gl cl : Nat) (ts : List Tok) (s : St) (w : World) (n : Nat) (r : Rd) (v : Value) (wr : World) : Prop :=
  ∃ (s' : St) (x : Nat), v = .int .i64 x ∧ RS B rb gl cl ts s' wr ∧ Fr rb s.pv s'.pv w wr ∧ (s.ps.length ≤ s'.ps.length ∧ s'.ps.length + s.i ≤ s.ps.length + s'.i) ∧
    ((s'.bad = false ∧ NumsOK s' ∧ ∃ g, g ≤ f ∧ P g (10 + n) ts s'.i (s'.ps.map toPt) x = some r) ∨ (s'.bad = true ∧ r.ok = false ∧ r.i = s'.i))

theorem chain_three {g B rb gl cl : Nat} {ts : List Tok} {s s7 : St} {w w9 : World} {n x n7 : Nat} {b r : Rd} {t : Tok} {pv9 v : Value} (h3 : n = 3)
    (HR : (b.ok = false ∧ r = b) ∨ (b.ok = true ∧ ((n = 3 ∧ r = put b t [x, b.top]) ∨ (n ≠ 3 ∧ P g (10 + n) ts b.i (b.L ++ [⟨t, [x, b.top]⟩]) b.L.length = some r))))
    (hk : numOf t = 0) (i7 : s7.i = b.i) (st7 : (b.ok = true ∧ s7.bad = false ∧ NumsOK s7 ∧ s7.ps.map toPt = b.L) ∨ (b.ok = false ∧ s7.bad = true)) (top7 : b.ok = true → n7 = b.top)
    (h9 : RS B rb gl cl ts { s7 with ps := s7.ps ++ [⟨t, [x, n7], 0, v⟩], pv := pv9 } w9) (F : Fr rb s.pv pv9 w w9) (gg : s.ps.length ≤ s7.ps.length + 1 ∧ s7.ps.length + 1 + s.i ≤ s.ps.length + s7.i) :
    Left B rb gl cl ts s w r (.returned (.int .i64 s7.ps.length)) w9 := by
  refine ⟨_, h9, F, by simpa using gg, ?_⟩
  rcases HR with ⟨ok, rfl⟩ | ⟨ok, hh⟩
  · rcases st7 with ⟨hh, _⟩ | ⟨_, bad⟩
    · rw [ok] at hh; simp at hh
    · exact ⟨i7, .inr ⟨ok, bad, _, rfl⟩⟩
  · rcases hh with ⟨_, rfl⟩ | ⟨hh, _⟩
    · rcases st7 with ⟨_, good, nums, hl⟩ | ⟨hh, _⟩
      · refine ⟨i7, .inl ⟨rfl, good, nums_snoc nums (by rw [hk]), ?_, ?_⟩⟩
        · simp [put, toPt, hl, top7 ok]
        · exact ret_int (by simp [put, ← hl])
      · rw [ok] at hh; simp at hh
    · exact absurd h3 hh
theorem chain_next {f g B rb gl cl : Nat} {ts : List Tok} {s s7 : St} {w w9 : World} {n x n7 : Nat} {b r : Rd} {t : Tok} {pv9 v : Value} (hg : g + 1 ≤ f) (h3 : ¬ n = 3)
    (HR : (b.ok = false ∧ r = b) ∨ (b.ok = true ∧ ((n = 3 ∧ r = put b t [x, b.top]) ∨ (n ≠ 3 ∧ P g (10 + n) ts b.i (b.L ++ [⟨t, [x, b.top]⟩]) b.L.length = some r))))
    (hk : numOf t = 0) (i7 : s7.i = b.i) (st7 : (b.ok = true ∧ s7.bad = false ∧ NumsOK s7 ∧ s7.ps.map toPt = b.L) ∨ (b.ok = false ∧ s7.bad = true)) (top7 : b.ok = true → n7 = b.top)
    (h9 : RS B rb gl cl ts { s7 with ps := s7.ps ++ [⟨t, [x, n7], 0, v⟩], pv := pv9 } w9) (F : Fr rb s.pv pv9 w w9) (gg : s.ps.length ≤ s7.ps.length + 1 ∧ s7.ps.length + 1 + s.i ≤ s.ps.length + s7.i) :
    AtLoop f B rb gl cl ts s w n r (.int .i64 s7.ps.length) w9 := by
  refine ⟨_, s7.ps.length, rfl, h9, F, by simpa using gg, ?_⟩
  rcases HR with ⟨ok, rfl⟩ | ⟨ok, hh⟩
  · rcases st7 with ⟨hh, _⟩ | ⟨_, bad⟩
    · rw [ok] at hh; simp at hh
    · exact .inr ⟨bad, ok, i7.symm⟩
  · rcases hh with ⟨hh, _⟩ | ⟨_, hp⟩
    · exact absurd hh h3
    · rcases st7 with ⟨_, good, nums, hl⟩ | ⟨hh, _⟩
      · refine .inl ⟨good, nums_snoc nums (by rw [hk]), g, by omega, ?_⟩
        rw [← hl] at hp
        simp only [List.map_append, List.map_cons, List.map_nil, toPt, top7 ok, i7]
        rw [List.length_map] at hp
        exact hp
      · rw [ok] at hh; simp at hh

set_option maxHeartbeats 4000000 in
theorem level_chain {f : Nat} (ih : ∀ g, g ≤ f → Reads g) {B rb gl cl : Nat} {ts : List Tok} {s : St} {w : World} {r : Rd} (h : RS B rb gl cl ts s w) (hts : ∀ t ∈ ts, TokOK t) (hB : B ≤ w.heap.size)
    (hgood : s.bad = false) (hnum : NumsOK s) (n : Nat) (hch : isChain n) (hP : P (f + 1) n ts s.i (s.ps.map toPt) 0 = some r) :
    Calls Tryz.prog 159 #[.pointer (some ⟨rb, 0, none⟩), .int .i64 n] w (Left B rb gl cl ts s w r) := by
  obtain ⟨a, hPa, hra⟩ := chain_split hch hP
  obtain ⟨c0, c1, c2, c3⟩ := h.cells
  rw [hgood] at c3
  have H1 : Hid _ := hPa
  have H2 : Hid _ := hgood
  have H3 : Hid _ := hra
  have HC : Hid _ := hch
  have hn4 : (n : Int) ≤ 4 := by unfold isChain at hch; omega
  have hn5 : ((n : Int) == 5) = false := by unfold isChain at hch; simp; omega
  have hn2 : ((n : Int) == 2) = false := by unfold isChain at hch; simp; omega
  clear hP hPa hgood hra hch
  go_enter Tryz.func159, Tryz.ntmps159
  go_wp2_with fail
  refine ((ih f (Nat.le_refl _) B rb gl cl ts s w a h hts hB).2 (n + 1) (by omega) H2.out hnum H1.out).mono ?_
  rintro e w1 hL
  obtain ⟨s1, x1, rfl, h1, F1, g1, i1, st1, top1⟩ := left_st hL
  clear hL c0 c1 c2 c3
  have hstart : AtLoop f B rb gl cl ts s w n r (.int .i64 x1) w1 := by
    refine ⟨s1, x1, rfl, h1, F1, g1, ?_⟩
    rcases H3.out with ⟨ok, hp⟩ | ⟨ok, rfl⟩
    · rcases st1.out with ⟨_, good, nums, hl⟩ | ⟨hh, _⟩
      · exact .inl ⟨good, nums, f, Nat.le_refl _, by rw [i1.out, hl, top1.out ok]; exact hp⟩
      · rw [ok] at hh; simp at hh
    · rcases st1.out with ⟨hh, _⟩ | ⟨_, bad⟩
      · rw [ok] at hh; simp at hh
      · exact .inr ⟨bad, ok, i1.out.symm⟩
  have hsz1 := F1.size
  clear st1 top1 i1 g1 F1 h1 H3 H1
  go_wp2_with fail
  go_loopw [8] (fun v wr => AtLoop f B rb gl cl ts s w n r v wr) (fun _ wr => ts.length - rdI rb wr)
  case atStart => exact hstart
  case round =>
    obtain ⟨s', x, rfl, hr, Fr', gr, hst⟩ := hrel
    obtain ⟨c0, c1, c2, c3⟩ := hr.cells
    obtain ⟨k0, k1, k2⟩ := next_word hr
    have hi := hr.hi
    have hn := hr.hn
    have b1 : (0 : Int) ≤ (s'.i : Int) := by omega
    have b2 : (s'.i : Int) < (ts.length : Int) := by omega
    have n0 := World.new_ne wr _ c0
    have n1 := World.new_ne wr _ c1
    have m0 := World.new_ne wr _ k0
    have m1 := World.new_ne wr _ k1
    have m2 := World.new_ne wr _ k2
    have HST : Hid _ := hst
    clear c2 c3 hst
    go_wp2_with fail
    go_region_held (fun w' => w'.cell? ⟨rb, 0, none⟩ = some (.slice (some ⟨gl, 0, none⟩) ts.length cl) ∧ w'.cell? ⟨rb, 1, none⟩ = some (.int .i64 s'.i) ∧ w'.cell? ⟨gl, s'.i * 3, none⟩ = some (.int .u8 (tokAt ts s'.i).k) ∧ w'.cell? ⟨gl, s'.i * 3 + 1, none⟩ = some (S (tokAt ts s'.i).text) ∧ w'.cell? ⟨gl, s'.i * 3 + 2, none⟩ = some (.int .i64 (tokAt ts s'.i).pl)) (go_keep) (fail)
    rename_i hHeld
    clear hHeld
    have h2 := hr.below (below_word wr (wordObj (tokAt ts s'.i)))
    have hbx2 : ((wr.alloc (wordObj (tokAt ts s'.i))).drew).heap[wr.heap.size]? = some (wordObj (tokAt ts s'.i)) := heap_alloc_new wr _
    have hbw2 := below_word wr (wordObj (tokAt ts s'.i))
    clear c0 c1 k0 k1 k2 n0 n1 m0 m1 m2
    generalize hW : (wr.alloc (wordObj (tokAt ts s'.i))).drew = w2 at *
    have q1 := cell_of_row w2 wr.heap.size 1 _ _ _ hbx2
    have hlt2 := lt_of_get hbx2
    clear hW
    simp only [List.getElem?_toArray, List.getElem?_cons_zero, List.getElem?_cons_succ] at q1
    go_wp2_with fail
    go_region_held3 (fun w' => w'.cell? ⟨wr.heap.size, 1, none⟩ = some (S (tokAt ts s'.i).text))
      (first | go_keep | (rw [hb5.cell (p := ⟨wr.heap.size, 1, none⟩) (by simp <;> omega)]; first | assumption | (simp [*]; done)))
      (first
        | (go_at_call 221; refine (signs_any n _ (by omega)).mono ?_; rintro e w5 ⟨x5, rfl, hc5, hb5, hl5, hs5⟩)
        | (go_at_call 87; refine (index_any (signsOf n) _ x5 _ (signsOf_len n) hc5).mono ?_; rintro e w5 ⟨rfl, rfl⟩))
    rename_i hHeld
    clear hHeld
    have hb6 : Below w2.heap.size w2 w5 := (Below.refl _ _).drew.trans hb5
    have h5 := h2.below hb6
    have hbx5 : w5.heap[wr.heap.size]? = some (wordObj (tokAt ts s'.i)) := by rw [hb6.block _ hlt2]; exact hbx2
    have hlt5 := lt_of_get hbx5
    have q0 := cell_of_row w5 wr.heap.size 0 _ _ _ hbx5
    have q1 := cell_of_row w5 wr.heap.size 1 _ _ _ hbx5
    have q2 := cell_of_row w5 wr.heap.size 2 _ _ _ hbx5
    have hbw5 : Below wr.heap.size wr w5 := hbw2.trans (hb6.mono hbw2.size)
    obtain ⟨c0, c1, c2, c3⟩ := h5.cells
    have hf := h5.free
    have i2 := idx_ge (signsOf n) (tokAt ts s'.i).text
    have hx : (s'.i : Int) + 1 ≤ 2000 := by omega
    have hrb := lt_of_get hr.rd
    clear h2 hbx2 hb5 hc5 hl5 hs5 hb6 hbw2 hlt2
    simp only [List.getElem?_toArray, List.getElem?_cons_zero, List.getElem?_cons_succ] at q0 q1 q2
    have hj : joins n (tokAt ts s'.i) = (decide (0 ≤ idx (signsOf n) (tokAt ts s'.i).text) && ((tokAt ts s'.i).k == 107 || (tokAt ts s'.i).k == 115)) := rfl
    generalize hM : idx (signsOf n) (tokAt ts s'.i).text = m at *
    have HJ : Hid _ := hj
    clear hM hj
    rcases HST.out with ⟨good, nums, g, hg, hp⟩ | ⟨bad, rok, ri⟩
    · rw [good] at c3
      have HG : Hid _ := good
      clear good
      by_cases hmj : joins n (tokAt ts s'.i) = true
      · obtain ⟨g, rfl⟩ : ∃ g', g = g' + 1 := by
          cases g with
          | zero => rw [P] at hp; simp at hp
          | succ g => exact ⟨g, rfl⟩
        obtain ⟨b, hPb, hrb2⟩ := loop_yes HC.out hp hmj
        have hm : 0 ≤ m ∧ ((tokAt ts s'.i).k = 107 ∨ (tokAt ts s'.i).k = 115) := by
          rw [HJ.out] at hmj; simpa using hmj
        have hnx : s'.i + 1 < ts.length := by
          rcases Nat.lt_or_ge (s'.i + 1) ts.length with h3 | h3
          · exact h3
          · have h4 : (tokAt ts s'.i).k = 101 := hr.fin s'.i (by omega)
            omega
        have HK : Hid (numOf (tokAt ts s'.i) = 0) := by show _ = _; unfold numOf; rw [if_neg (by omega)]
        have HPb : Hid _ := hPb
        have HR : Hid _ := hrb2
        have h6 := h5.next hnx
        have F6 : Fr rb s.pv s'.pv w (w5.setCell ⟨rb, 1, none⟩ (.int .i64 ((s'.i : Int) + 1))) := Fr'.trans ((Fr.of_below hbw5).set hrb _ _)
        have hbx6 : (w5.setCell ⟨rb, 1, none⟩ (.int .i64 ((s'.i : Int) + 1))).heap[wr.heap.size]? = some (wordObj (tokAt ts s'.i)) := by
          rw [Below.heap_setCell _ _ _ _ (by simp; omega)]; exact hbx5
        have H6 : Hid _ := h6
        have HF6 : Hid _ := F6
        have HX6 : Hid _ := hbx6
        obtain ⟨hm0, hk⟩ := hm
        clear hp hPb hrb2 hmj h6 F6 hbx6
        have hkk : ((((tokAt ts s'.i).k : Int) != 107) = false) ∨ ((((tokAt ts s'.i).k : Int) != 107) = true ∧ (((tokAt ts s'.i).k : Int) != 115) = false) := by
          rcases hk with hk | hk <;> simp [hk]
        clear hk
        rcases hkk with hk1 | ⟨hk1, hk2⟩
        all_goals
          go_wp2_with fail
          have h6 := H6.out
          have F6 := HF6.out
          have hbx6 := HX6.out
          clear H6 HF6 HX6 h5 hbx5 q0 q1 q2 c0 c1 c2 c3 hf hbw5 hlt5
          generalize w5.setCell ⟨rb, 1, none⟩ (.int .i64 ((s'.i : Int) + 1)) = w6 at *
          have hs6 := F6.size
          refine ((ih g (by omega) B rb gl cl ts { s' with i := s'.i + 1 } w6 b h6 hts (by omega)).2 (n + 1) (by omega) HG.out nums HPb.out).mono ?_
          rintro e w7 hL
          obtain ⟨s7, n7, rfl, h7, F7, g7, i7, st7, top7⟩ := left_st hL
          have hs7 := F7.size
          have hbx7 := F7.far hbx6 (by omega) (own_ne h6 hbx6 (by simp))
          have q0 := cell_of_row w7 wr.heap.size 0 _ _ _ hbx7
          have q1 := cell_of_row w7 wr.heap.size 1 _ _ _ hbx7
          have q2 := cell_of_row w7 wr.heap.size 2 _ _ _ hbx7
          have F : Fr rb s.pv s7.pv w w7 := F6.trans F7
          clear hL hbx6 hbx7 F6 F7 h6
          go_wp2_with fail
          refine (adds_any (h7.below ((Below.refl _ _).alloc (Nat.le_refl _) _)) ⟨tokAt ts s'.i, [x, n7], 0, .slice (some ⟨w7.heap.size, 0, none⟩) 2 2⟩ (.inr ⟨w7.heap.size, rfl, heap_alloc_new w7 _⟩) (by simp; omega) (by have := hr.few; omega)).mono ?_
          rintro e w9 ⟨rfl, pv9, h9, F9⟩
          have F10 := F.trans ((Fr.of_below ((Below.refl _ _).alloc (Nat.le_refl _) _)).trans F9)
          have gg : s.ps.length ≤ s7.ps.length + 1 ∧ s7.ps.length + 1 + s.i ≤ s.ps.length + s7.i := by have := hr.few; omega
          have hdec : s'.i < s7.i := by omega
          clear q0 q1 q2 F F9
          by_cases h3 : n = 3
        all_goals
          try (
            have h3b : ((n : Int) == 3) = true := by simp; omega
            have H3 : Hid _ := h3
            clear h3
            go_wp2_with fail
            go_ret
            exact chain_three H3.out HR.out HK.out i7.out st7.out top7.out h9 F10 gg)
        all_goals
          have h3b : ((n : Int) == 3) = false := by simp; omega
          have H3 : Hid _ := h3
          clear h3
          go_wp2_with fail
          go_roundw
          case rel => exact chain_next hg H3.out HR.out HK.out i7.out st7.out top7.out h9 F10 gg
          case measure => rw [rdI_eq h9, rdI_eq hr]; have := h7.hi; simp; omega
      · have hrr : Hid (r = ⟨true, s'.i, s'.ps.map toPt, x⟩) := by
          cases g with
          | zero => rw [P] at hp; simp at hp
          | succ g => exact loop_no HC.out hp (by simpa using hmj)
        clear hp
        have hfin : Left B rb gl cl ts s w r (.returned (.int .i64 x)) w5 :=
          ⟨s', h5, Fr'.trans (Fr.of_below hbw5), gr, by rw [hrr.out], .inl ⟨by rw [hrr.out], HG.out, nums, by rw [hrr.out], by rw [hrr.out]⟩⟩
        by_cases hm : m < 0
        · go_wp2_with fail
          go_ret
          exact hfin
        · have hk : (((tokAt ts s'.i).k : Int) != 107) = true ∧ (((tokAt ts s'.i).k : Int) != 115) = true := by
            rw [HJ.out] at hmj
            simp at hmj ⊢
            omega
          obtain ⟨hk1, hk2⟩ := hk
          go_wp2_with fail
          go_ret
          exact hfin
    · have hfin : Left B rb gl cl ts s w r (.returned (.int .i64 x)) w5 :=
        ⟨s', h5, Fr'.trans (Fr.of_below hbw5), gr, ri.symm, .inr ⟨rok, bad, x, rfl⟩⟩
      rw [bad] at c3
      clear bad rok ri
      go_wp2_with fail
      go_ret
      exact hfin
end Go.Proofs.YtfkdailfcmnjlaaGreatDoor

namespace Go.Proofs.YtfkdailfcmnjlaaGreatDoor
open Go Go.RowKit
set_option maxRecDepth 100000
attribute [local go_sem ↓] Go.wp_at_zero Go.wp_at_succ

theorem reads_zero : Reads 0 := by
  intro B rb gl cl ts s w r h hts hB
  refine ⟨fun hm => ?_, fun n _ _ _ hP => by rw [P] at hP; simp at hP⟩
  rcases hm with ⟨hb, hr, hi⟩ | ⟨_, _, hP⟩
  · refine (condition_bad h hb).mono ?_
    rintro e w' ⟨rfl, hw⟩
    exact left_bad h hb hr hi 0 hw
  · rw [P] at hP; simp at hP

theorem reads_step (f : Nat) (ih : ∀ g, g ≤ f → Reads g) : Reads (f + 1) := by
  intro B rb gl cl ts s w r h hts hB
  refine ⟨fun hm => condition_step (ih f (Nat.le_refl _)) h hts hB hm, fun n hn hgood hnum hP => ?_⟩
  by_cases h5 : n = 5
  · subst h5; exact level_five (ih f (Nat.le_refl _)) h hts hB hgood hnum hP
  by_cases h2 : n = 2
  · subst h2
    by_cases hw : isW (tokAt ts s.i) wNot = true
    · exact level_two_yes (ih f (Nat.le_refl _)) h hts hB hgood hnum hP hw
    · exact level_two_no (ih f (Nat.le_refl _)) h hts hB hgood hnum hP hw
  · exact level_chain ih h hts hB hgood hnum n (by unfold isChain; omega) hP

theorem reads_upto (f : Nat) : ∀ g, g ≤ f → Reads g := by
  induction f with
  | zero => intro g hg; rw [Nat.le_zero.1 hg]; exact reads_zero
  | succ f ih =>
    intro g hg
    rcases Nat.lt_or_ge g (f + 1) with h | h
    · exact ih g (by omega)
    · rw [show g = f + 1 from by omega]; exact reads_step f ih
theorem reads_all (f : Nat) : Reads f := reads_upto f f (Nat.le_refl _)

def itmV (x : Itm) : Value := .agg #[S x.name, .bool x.allow, .int .i64 x.top, .int .i64 x.pl, .int .i64 x.named, .int .i64 x.parts]
abbrev itmObj (x : Itm) : Obj := .cells #[S x.name, .bool x.allow, .int .i64 x.top, .int .i64 x.pl, .int .i64 x.named, .int .i64 x.parts] 95

/-- What 'item' leaves. -/
def LeftI (B rb gl cl : Nat) (ts : List Tok) (s : St) (w : World) (r : ItR) (e : Ending) (w' : World) : Prop :=
  ∃ (s' : St) (x : Itm), e = .returned (itmV x) ∧ RS B rb gl cl ts s' w' ∧ Fr rb s.pv s'.pv w w' ∧ (s.ps.length ≤ s'.ps.length ∧ s'.ps.length + s.i ≤ s.ps.length + s'.i) ∧ s'.i = r.i ∧
    ((r.ok = true ∧ s'.bad = false ∧ NumsOK s' ∧ s'.ps.map toPt = r.L ∧ x = r.it) ∨ (r.ok = false ∧ s'.bad = true))

theorem RS.but {B rb gl cl : Nat} {ts : List Tok} {s : St} {w w' : World} (h : RS B rb gl cl ts s w) {b : Nat} {cs : Array Value} (hb : w.heap[b]? = some (.cells cs 95 (0, 0))) (ho : ∀ k, k ≠ b → w'.heap[k]? = w.heap[k]?) : RS B rb gl cl ts s w' := by
  have hty : ∀ (k : Nat) (cs' : Array Value) (e : TypeId), w.heap[k]? = some (.cells cs' e (0, 0)) → e ≠ 95 → w'.heap[k]? = w.heap[k]? := fun k cs' e hk he => ho k fun hh => by
    subst hh; rw [hb] at hk; simp at hk; exact he hk.2.symm
  refine ⟨?_, ?_, ?_, ?_, h.hb, h.hi, h.hn, h.fin, h.few⟩
  · rw [hty _ _ _ h.rd (by decide)]; exact h.rd
  · refine ownsRow_of_block h.words fun k hk => ?_
    obtain ⟨cs', hc⟩ := ownsRow_type h.words hk
    exact hty k cs' _ hc (by decide)
  · refine ownsRow_of_block h.parts fun k hk => ?_
    obtain ⟨cs', hc⟩ := ownsRow_type h.parts hk
    exact hty k cs' _ hc (by decide)
  · intro p hp
    exact (h.subs p hp).of fun k cs' hk => hty k cs' _ hk (by decide)

theorem Fr.new {rb : Nat} {pv pv' : Value} {w w' : World} (h : Fr rb pv pv' w w') {b : Nat} (hb : w.heap.size ≤ b) (j : Nat) (v : Value) : Fr rb pv pv' w (w'.setCell ⟨b, j, none⟩ v) :=
  ⟨h.os, h.tape, h.output, by simpa using h.size, fun k hk h1 h2 => by rw [Below.heap_setCell _ _ _ _ (by simp; omega)]; exact h.block k hk h1 h2, h.own⟩

/-- Six stores into a block. -/
def set6 (w : World) (b : Nat) (x : Itm) : World :=
  (((((w.setCell ⟨b, 0, none⟩ (S x.name)).setCell ⟨b, 1, none⟩ (.bool x.allow)).setCell ⟨b, 2, none⟩ (.int .i64 x.top)).setCell ⟨b, 3, none⟩ (.int .i64 x.pl)).setCell ⟨b, 4, none⟩ (.int .i64 x.named)).setCell ⟨b, 5, none⟩ (.int .i64 x.parts)
theorem set6_far (w : World) (b : Nat) (x : Itm) (k : Nat) (hk : k ≠ b) : (set6 w b x).heap[k]? = w.heap[k]? := by
  unfold set6
  rw [Below.heap_setCell _ _ _ _ hk, Below.heap_setCell _ _ _ _ hk, Below.heap_setCell _ _ _ _ hk, Below.heap_setCell _ _ _ _ hk, Below.heap_setCell _ _ _ _ hk, Below.heap_setCell _ _ _ _ hk]
theorem set6_fr {rb : Nat} {pv pv' : Value} {w w' : World} (h : Fr rb pv pv' w w') {b : Nat} (hb : w.heap.size ≤ b) (x : Itm) : Fr rb pv pv' w (set6 w' b x) :=
  (((((h.new hb _ _).new hb _ _).new hb _ _).new hb _ _).new hb _ _).new hb _ _
/-- The cells of an item that lies in memory. -/
theorem itm_cells {w : World} {b : Nat} {x : Itm} (h : w.heap[b]? = some (itmObj x)) : (w.cell? ⟨b, 0, none⟩ = some (S x.name) ∧ w.cell? ⟨b, 1, none⟩ = some (.bool x.allow) ∧ w.cell? ⟨b, 2, none⟩ = some (.int .i64 x.top) ∧ w.cell? ⟨b, 3, none⟩ = some (.int .i64 x.pl) ∧ w.cell? ⟨b, 4, none⟩ = some (.int .i64 x.named) ∧ w.cell? ⟨b, 5, none⟩ = some (.int .i64 x.parts)) ∧ ∀ j, w.frozen? ⟨b, j, none⟩ = false := by
  have hc := fun j => cell_of_row w b j _ _ _ h
  exact ⟨⟨hc 0, hc 1, hc 2, hc 3, hc 4, hc 5⟩, fun j => by simp [World.frozen?, h]⟩

theorem three_new (w : World) (o1 o2 o3 : Obj) : Below w.heap.size w (((w.alloc o1).alloc o2).alloc o3).drew ∧ (((w.alloc o1).alloc o2).alloc o3).drew.heap[w.heap.size]? = some o1 ∧ (((w.alloc o1).alloc o2).alloc o3).drew.heap[w.heap.size + 1 + 1]? = some o3 := by
  refine ⟨((((Below.refl _ _).alloc (Nat.le_refl _) _).alloc (by simp) _).alloc (by simp; omega) _).drew, ?_, ?_⟩
  · show (((w.alloc o1).alloc o2).alloc o3).heap[w.heap.size]? = some o1
    rw [Below.heap_alloc _ _ _ (by simp; omega), Below.heap_alloc _ _ _ (by simp)]; exact heap_alloc_new w o1
  · have e := heap_alloc_new ((w.alloc o1).alloc o2) o3
    simp only [World.size_alloc] at e
    exact e

theorem item_out {B rb gl cl : Nat} {ts : List Tok} {s s' : St} {w w' : World} {r : ItR} {x y : Itm} {b : Nat} (h : RS B rb gl cl ts s' w') (hF : Fr rb s.pv s'.pv w w') (hb : w.heap.size ≤ b) (hy : w'.heap[b]? = some (itmObj y))
    (hg : s.ps.length ≤ s'.ps.length ∧ s'.ps.length + s.i ≤ s.ps.length + s'.i) (hi : s'.i = r.i) (hs : (r.ok = true ∧ s'.bad = false ∧ NumsOK s' ∧ s'.ps.map toPt = r.L ∧ x = r.it) ∨ (r.ok = false ∧ s'.bad = true)) :
    LeftI B rb gl cl ts s w r (.returned (itmV x)) (set6 w' b x) :=
  ⟨s', x, rfl, h.but hy (set6_far w' b x), set6_fr hF hb x, hg, hi, hs⟩

set_option maxHeartbeats 4000000 in
theorem item_none {B rb gl cl : Nat} {ts : List Tok} {s : St} {w : World} {r : ItR} (h : RS B rb gl cl ts s w) (hB : B ≤ w.heap.size)
    (hgood : s.bad = false) (h1 : ¬ isW (tokAt ts s.i) wLet = true) (h2 : ¬ isW (tokAt ts s.i) wAllow = true) (h3 : ¬ isW (tokAt ts s.i) wDeny = true) (hr : r = ⟨false, s.i, [], noItm⟩) :
    Calls Tryz.prog 61 #[.pointer (some ⟨rb, 0, none⟩)] w (LeftI B rb gl cl ts s w r) := by
  have e1 : Hid (seesB s.bad (tokAt ts s.i) wLet = false) := by show _ = _; unfold seesB; rw [hgood]; simpa using h1
  have e2 : Hid (seesB s.bad (tokAt ts s.i) wAllow = false) := by show _ = _; unfold seesB; rw [hgood]; simpa using h2
  have e3 : Hid (seesB s.bad (tokAt ts s.i) wDeny = false) := by show _ = _; unfold seesB; rw [hgood]; simpa using h3
  have H2 : Hid _ := hgood
  have HR : Hid _ := hr
  clear hr hgood h1 h2 h3
  obtain ⟨c0, c1, c2, c3⟩ := h.cells
  obtain ⟨k0, k1, k2⟩ := next_word h
  have hi := h.hi
  have hn := h.hn
  have b1 : (0 : Int) ≤ (s.i : Int) := by omega
  have b2 : (s.i : Int) < (ts.length : Int) := by omega
  have l0 := World.block_lt_of_cell? w _ c0
  have l1 := World.block_lt_of_cell? w _ k0
  simp only at l0 l1
  have n0 : w.heap.size ≠ rb := by omega
  have n1 : w.heap.size + 1 ≠ rb := by omega
  have m0 : w.heap.size ≠ gl := by omega
  have m1 : w.heap.size + 1 ≠ gl := by omega
  clear c2 c3
  go_enter Tryz.func61, Tryz.ntmps61
  go_wp2_with fail
  go_region_held (fun w' => w'.cell? ⟨rb, 0, none⟩ = some (.slice (some ⟨gl, 0, none⟩) ts.length cl) ∧ w'.cell? ⟨rb, 1, none⟩ = some (.int .i64 s.i) ∧ w'.cell? ⟨gl, s.i * 3, none⟩ = some (.int .u8 (tokAt ts s.i).k) ∧ w'.cell? ⟨gl, s.i * 3 + 1, none⟩ = some (S (tokAt ts s.i).text) ∧ w'.cell? ⟨gl, s.i * 3 + 2, none⟩ = some (.int .i64 (tokAt ts s.i).pl)) (go_keep) (fail)
  rename_i hHeld
  clear hHeld
  obtain ⟨hbW, hR, hX⟩ := three_new w (itmObj noItm) (wordObj (tokAt ts s.i)) (itmObj ⟨[], (tokAt ts s.i).text == wAllow, 0, (tokAt ts s.i).pl, 0, 0⟩)
  have hW := h.below hbW
  clear c0 c1 k0 k1 k2 n0 n1 m0 m1
  go_wp2_with fail
  refine (sees_any hW wLet).mono ?_
  rintro e w1 ⟨rfl, hb1⟩
  have hW1 := hW.below hb1
  have hR1 : w1.heap[w.heap.size]? = some (itmObj noItm) := by rw [hb1.block _ (lt_of_get hR)]; exact hR
  have hX1 : w1.heap[w.heap.size + 1 + 1]? = some (itmObj ⟨[], (tokAt ts s.i).text == wAllow, 0, (tokAt ts s.i).pl, 0, 0⟩) := by rw [hb1.block _ (lt_of_get hX)]; exact hX
  have hbW1 : Below w.heap.size w w1 := hbW.trans (hb1.mono hbW.size)
  clear hbW hR hX hW hb1
  rw [e1.out]
  go_wp2_with fail
  refine (sees_any hW1 wAllow).mono ?_
  rintro e w2 ⟨rfl, hb2⟩
  have hW2 := hW1.below hb2
  have hR2 : w2.heap[w.heap.size]? = some (itmObj noItm) := by rw [hb2.block _ (lt_of_get hR1)]; exact hR1
  have hX2 : w2.heap[w.heap.size + 1 + 1]? = some (itmObj ⟨[], (tokAt ts s.i).text == wAllow, 0, (tokAt ts s.i).pl, 0, 0⟩) := by rw [hb2.block _ (lt_of_get hX1)]; exact hX1
  have hbW2 : Below w.heap.size w w2 := hbW1.trans (hb2.mono hbW1.size)
  clear hbW1 hR1 hX1 hW1 hb2
  rw [e2.out]
  go_wp2_with fail
  refine (sees_any hW2 wDeny).mono ?_
  rintro e w3 ⟨rfl, hb3⟩
  have hW3 := hW2.below hb3
  have hR3 : w3.heap[w.heap.size]? = some (itmObj noItm) := by rw [hb3.block _ (lt_of_get hR2)]; exact hR2
  have hX3 : w3.heap[w.heap.size + 1 + 1]? = some (itmObj ⟨[], (tokAt ts s.i).text == wAllow, 0, (tokAt ts s.i).pl, 0, 0⟩) := by rw [hb3.block _ (lt_of_get hX2)]; exact hX2
  have hbW3 : Below w.heap.size w w3 := hbW2.trans (hb3.mono hbW2.size)
  clear hbW2 hR2 hX2 hW2 hb3
  rw [e3.out]
  obtain ⟨c0, c1, c2, c3⟩ := hW3.cells
  have hf := hW3.free
  obtain ⟨⟨r0, r1, r2, r3, r4, r5⟩, rf⟩ := itm_cells hR3
  obtain ⟨⟨x0, x1, x2, x3, x4, x5⟩, xf⟩ := itm_cells hX3
  have s1 := fun v j => set_far w3 rb w.heap.size 3 j v (by omega)
  have s2 := fun v j => set_far w3 rb (w.heap.size + 1 + 1) 3 j v (by omega)
  have hout := item_out (r := r) (x := ⟨[], (tokAt ts s.i).text == wAllow, 0, (tokAt ts s.i).pl, 0, 0⟩) (s := s) (w := w) hW3.fails ((Fr.of_below hbW3).set l0 3 (.bool true)) (Nat.le_refl _) (by rw [Below.heap_setCell _ _ _ _ (by simp; omega)]; exact hR3) ⟨Nat.le_refl _, Nat.le_refl _⟩ (by rw [HR.out]) (.inr ⟨by rw [HR.out], rfl⟩)
  have HO : Hid _ := hout
  clear hout
  go_wp2_with fail
  exact bodyPost_ret (v := itmV ⟨[], (tokAt ts s.i).text == wAllow, 0, (tokAt ts s.i).pl, 0, 0⟩) (by simp [results, Tryz.results61, go_sem, itmV, cell_set_same, cell_set_off, some_set, s1, r0, r1, r2, r3, r4, r5]) rfl HO.out
end Go.Proofs.YtfkdailfcmnjlaaGreatDoor

namespace Go.Proofs.YtfkdailfcmnjlaaGreatDoor
open Go Go.RowKit
set_option maxRecDepth 100000
attribute [local go_sem ↓] Go.wp_at_zero Go.wp_at_succ

theorem tail_split {f : Nat} {ts : List Tok} {i : Nat} {L : List Pt} {x : Itm} {r : ItR} (h : itemTail f ts i L x = some r) :
    ∃ a : Rd, P f 6 ts i L 0 = some a ∧ ((a.ok = true ∧ isW (tokAt ts a.i) [59] = true ∧ r = ⟨true, a.i + 1, a.L, { x with top := a.top, parts := a.L.length }⟩) ∨ (¬ (a.ok = true ∧ isW (tokAt ts a.i) [59] = true) ∧ r.ok = false ∧ r.i = a.i)) := by
  unfold itemTail at h
  cases ha : P f 6 ts i L 0 with
  | none => rw [ha] at h; simp at h
  | some a =>
    rw [ha] at h
    simp only at h
    refine ⟨a, rfl, ?_⟩
    by_cases hok : a.ok = true
    · rw [if_pos hok] at h
      by_cases ht : isW (tokAt ts a.i) [59] = true
      · rw [if_pos ht] at h; simp at h; exact .inl ⟨hok, ht, h.symm⟩
      · rw [if_neg ht] at h; simp [itFail] at h; subst h; exact .inr ⟨fun e => ht e.2, rfl, rfl⟩
    · rw [if_neg hok] at h; simp [itFail] at h; subst h; exact .inr ⟨fun e => hok e.1, rfl, rfl⟩
theorem RS.pv_form {B rb gl cl : Nat} {ts : List Tok} {s : St} {w : World} (h : RS B rb gl cl ts s w) : ∃ a c, s.pv = .slice a s.ps.length c := by
  rcases h.parts.2 with ⟨e, hn⟩ | ⟨g, cap, cur, e, _⟩
  · exact ⟨none, 0, by rw [e, hn]⟩
  · exact ⟨_, _, e⟩
theorem tail_fin {ts : List Tok} {s6 : St} {n6 : Nat} {a : Rd} {x : Itm} {r : ItR}
    (hr : (a.ok = true ∧ isW (tokAt ts a.i) [59] = true ∧ r = ⟨true, a.i + 1, a.L, { x with top := a.top, parts := a.L.length }⟩) ∨ (¬ (a.ok = true ∧ isW (tokAt ts a.i) [59] = true) ∧ r.ok = false ∧ r.i = a.i))
    (i6 : s6.i = a.i) (st : (a.ok = true ∧ s6.bad = false ∧ NumsOK s6 ∧ s6.ps.map toPt = a.L) ∨ (a.ok = false ∧ s6.bad = true)) (top : a.ok = true → n6 = a.top) :
    (mustSt ts s6 [59]).i = r.i ∧ ((r.ok = true ∧ (mustSt ts s6 [59]).bad = false ∧ NumsOK (mustSt ts s6 [59]) ∧ (mustSt ts s6 [59]).ps.map toPt = r.L ∧ (⟨x.name, x.allow, n6, x.pl, x.named, (mustSt ts s6 [59]).ps.length⟩ : Itm) = r.it) ∨ (r.ok = false ∧ (mustSt ts s6 [59]).bad = true)) := by
  rcases hr with ⟨ok, hw, rfl⟩ | ⟨hno, hr1, hr2⟩
  · rcases st with ⟨_, good, nums, hL⟩ | ⟨hh, _⟩
    · have e5 : mustSt ts s6 [59] = { s6 with i := s6.i + 1 } := by unfold mustSt seesB; rw [good, i6, if_pos (by simp [hw])]
      rw [e5]
      exact ⟨by simp [i6], .inl ⟨rfl, good, nums, hL, by simp [top ok, ← hL]⟩⟩
    · rw [hh] at ok; simp at ok
  · have e5 : mustSt ts s6 [59] = { s6 with bad := true } := by
      unfold mustSt seesB
      rw [if_neg]
      rcases st with ⟨ok, good, _, _⟩ | ⟨_, hb⟩
      · rw [good, i6]; simp; simpa using fun e => hno ⟨ok, e⟩
      · rw [hb]; simp
    rw [e5]
    exact ⟨by simp [i6, hr2], .inr ⟨hr1, rfl⟩⟩

set_option maxHeartbeats 8000000 in
theorem item_allow {f : Nat} {B rb gl cl : Nat} {ts : List Tok} {s : St} {w : World} {r : ItR} (h : RS B rb gl cl ts s w) (hts : ∀ t ∈ ts, TokOK t) (hB : B ≤ w.heap.size)
    (hgood : s.bad = false) (hnum : NumsOK s) (hw : isW (tokAt ts s.i) wAllow = true) (h1 : ¬ isW (tokAt ts s.i) wLet = true)
    (hif : isW (tokAt ts (s.i + 1)) wIf = true) (hr : itemTail f ts (s.i + 2) (s.ps.map toPt) ⟨[], (tokAt ts s.i).text == wAllow, 0, (tokAt ts s.i).pl, 0, 0⟩ = some r) :
    Calls Tryz.prog 61 #[.pointer (some ⟨rb, 0, none⟩)] w (LeftI B rb gl cl ts s w r) := by
  have e1 : Hid (seesB s.bad (tokAt ts s.i) wLet = false) := by show _ = _; unfold seesB; rw [hgood]; simpa using h1
  have e2 : Hid (seesB s.bad (tokAt ts s.i) wAllow = true) := by show _ = _; unfold seesB; rw [hgood, hw]; rfl
  have e3 : Hid (seesB s.bad (tokAt ts s.i) wDeny = false) := by
    show _ = _; unfold seesB isW at *; simp at hw ⊢; intro _ _ e; rw [hw.2] at e; simp [wAllow, wDeny] at e
  have hnx := sees_next h e2.out
  clear h1 hw
  have H2 : Hid _ := hgood
  have HR : Hid _ := hr
  have HI : Hid _ := hif
  clear hr hgood hif
  obtain ⟨c0, c1, c2, c3⟩ := h.cells
  obtain ⟨k0, k1, k2⟩ := next_word h
  have hi := h.hi
  have hn := h.hn
  have b1 : (0 : Int) ≤ (s.i : Int) := by omega
  have b2 : (s.i : Int) < (ts.length : Int) := by omega
  have l0 := World.block_lt_of_cell? w _ c0
  have l1 := World.block_lt_of_cell? w _ k0
  simp only at l0 l1
  have n0 : w.heap.size ≠ rb := by omega
  have n1 : w.heap.size + 1 ≠ rb := by omega
  have m0 : w.heap.size ≠ gl := by omega
  have m1 : w.heap.size + 1 ≠ gl := by omega
  clear c2 c3
  go_enter Tryz.func61, Tryz.ntmps61
  go_wp2_with fail
  go_region_held (fun w' => w'.cell? ⟨rb, 0, none⟩ = some (.slice (some ⟨gl, 0, none⟩) ts.length cl) ∧ w'.cell? ⟨rb, 1, none⟩ = some (.int .i64 s.i) ∧ w'.cell? ⟨gl, s.i * 3, none⟩ = some (.int .u8 (tokAt ts s.i).k) ∧ w'.cell? ⟨gl, s.i * 3 + 1, none⟩ = some (S (tokAt ts s.i).text) ∧ w'.cell? ⟨gl, s.i * 3 + 2, none⟩ = some (.int .i64 (tokAt ts s.i).pl)) (go_keep) (fail)
  rename_i hHeld
  clear hHeld
  obtain ⟨hbW, hR, hX⟩ := three_new w (itmObj noItm) (wordObj (tokAt ts s.i)) (itmObj ⟨[], (tokAt ts s.i).text == wAllow, 0, (tokAt ts s.i).pl, 0, 0⟩)
  have hW := h.below hbW
  clear c0 c1 k0 k1 k2 n0 n1 m0 m1
  go_wp2_with fail
  refine (sees_any hW wLet).mono ?_
  rintro e w1 ⟨rfl, hb1⟩
  have hW1 := hW.below hb1
  have hR1 : w1.heap[w.heap.size]? = some (itmObj noItm) := by rw [hb1.block _ (lt_of_get hR)]; exact hR
  have hX1 : w1.heap[w.heap.size + 1 + 1]? = some (itmObj ⟨[], (tokAt ts s.i).text == wAllow, 0, (tokAt ts s.i).pl, 0, 0⟩) := by rw [hb1.block _ (lt_of_get hX)]; exact hX
  have hbW1 : Below w.heap.size w w1 := hbW.trans (hb1.mono hbW.size)
  clear hbW hR hX hW hb1
  rw [e1.out]
  go_wp2_with fail
  refine (sees_any hW1 wAllow).mono ?_
  rintro e w2 ⟨rfl, hb2⟩
  have hW2 := hW1.below hb2
  have hR2 : w2.heap[w.heap.size]? = some (itmObj noItm) := by rw [hb2.block _ (lt_of_get hR1)]; exact hR1
  have hX2 : w2.heap[w.heap.size + 1 + 1]? = some (itmObj ⟨[], (tokAt ts s.i).text == wAllow, 0, (tokAt ts s.i).pl, 0, 0⟩) := by rw [hb2.block _ (lt_of_get hX1)]; exact hX1
  have hbW2 : Below w.heap.size w w2 := hbW1.trans (hb2.mono hbW1.size)
  clear hbW1 hR1 hX1 hW1 hb2
  rw [e2.out]
  go_wp2_with fail
  refine (sees_any hW2 wDeny).mono ?_
  rintro e w3 ⟨rfl, hb3⟩
  have hW3 := hW2.below hb3
  have hR3 : w3.heap[w.heap.size]? = some (itmObj noItm) := by rw [hb3.block _ (lt_of_get hR2)]; exact hR2
  have hX3 : w3.heap[w.heap.size + 1 + 1]? = some (itmObj ⟨[], (tokAt ts s.i).text == wAllow, 0, (tokAt ts s.i).pl, 0, 0⟩) := by rw [hb3.block _ (lt_of_get hX2)]; exact hX2
  have hbW3 : Below w.heap.size w w3 := hbW2.trans (hb3.mono hbW2.size)
  clear hbW2 hR2 hX2 hW2 hb3
  rw [e3.out]
  obtain ⟨c0, c1, c2, c3⟩ := hW3.cells
  have hf := hW3.free
  obtain ⟨⟨r0, r1, r2, r3, r4, r5⟩, rf⟩ := itm_cells hR3
  obtain ⟨⟨x0, x1, x2, x3, x4, x5⟩, xf⟩ := itm_cells hX3
  have hx' : (s.i : Int) + 1 ≤ 2000 := by omega
  have s1 := fun v j => set_far w3 rb w.heap.size 1 j v (by omega)
  have s2 := fun v j => set_far w3 rb (w.heap.size + 1 + 1) 1 j v (by omega)
  go_wp2_with fail
  have h4 := hW3.next hnx.1
  have F4 : Fr rb s.pv s.pv w (w3.setCell ⟨rb, 1, none⟩ (.int .i64 ((s.i : Int) + 1))) := (Fr.of_below hbW3).set l0 _ _
  have hR4 : (w3.setCell ⟨rb, 1, none⟩ (.int .i64 ((s.i : Int) + 1))).heap[w.heap.size]? = some (itmObj noItm) := by rw [Below.heap_setCell _ _ _ _ (by simp; omega)]; exact hR3
  have hX4 : (w3.setCell ⟨rb, 1, none⟩ (.int .i64 ((s.i : Int) + 1))).heap[w.heap.size + 1 + 1]? = some (itmObj ⟨[], (tokAt ts s.i).text == wAllow, 0, (tokAt ts s.i).pl, 0, 0⟩) := by rw [Below.heap_setCell _ _ _ _ (by simp; omega)]; exact hX3
  clear hW3 hbW3 hR3 hX3 c0 c1 c2 c3 hf r0 r1 r2 r3 r4 r5 rf x0 x1 x2 x3 x4 x5 xf s1 s2
  generalize w3.setCell ⟨rb, 1, none⟩ (.int .i64 ((s.i : Int) + 1)) = w4 at *
  refine (must_any h4 wIf).mono ?_
  rintro e w5 ⟨rfl, h5, F5⟩
  have e5 : mustSt ts { s with i := s.i + 1 } wIf = { s with i := s.i + 2 } := by
    unfold mustSt seesB; simp only; rw [H2.out, if_pos (by simpa using HI.out)]
  rw [e5] at h5
  have hR5 := F5.far hR4 (by omega) (own_ne h4 hR4 (by simp))
  have hX5 := F5.far hX4 (by omega) (own_ne h4 hX4 (by simp))
  have F6 : Fr rb s.pv s.pv w w5 := F4.trans F5
  have hs5 := F6.size
  clear e5 F5 F4 hR4 hX4 h4
  obtain ⟨c0, c1, c2, c3⟩ := h5.cells
  rw [H2.out] at c3
  go_wp2_with fail
  obtain ⟨a, hPa, hra⟩ := tail_split HR.out
  have HA : Hid _ := hra
  clear hra
  refine (((reads_all f) B rb gl cl ts { s with i := s.i + 2 } w5 a h5 hts (by omega)).1 (.inr ⟨H2.out, hnum, hPa⟩)).mono ?_
  rintro e w6 hL
  obtain ⟨s6, n6, rfl, h6, F7, g6, i6, st6, top6⟩ := left_st hL
  have hR6 := F7.far hR5 (by omega) (own_ne h5 hR5 (by simp))
  have hX6 := F7.far hX5 (by omega) (own_ne h5 hX5 (by simp))
  have F8 : Fr rb s.pv s6.pv w w6 := F6.trans F7
  have hs6 := F8.size
  clear hL hPa F7 F6 h5 hR5 hX5 c0 c1 c2 c3
  obtain ⟨⟨x0, x1, x2, x3, x4, x5⟩, xf⟩ := itm_cells hX6
  go_wp2_with fail
  have h7 := h6.but hX6 (w' := w6.setCell ⟨w.heap.size + 1 + 1, 2, none⟩ (.int .i64 n6)) (fun k hk => Below.heap_setCell _ _ _ _ hk)
  have hX7 : (w6.setCell ⟨w.heap.size + 1 + 1, 2, none⟩ (.int .i64 n6)).heap[w.heap.size + 1 + 1]? = some (itmObj ⟨[], (tokAt ts s.i).text == wAllow, n6, (tokAt ts s.i).pl, 0, 0⟩) := by rw [heap_setCell_same w6 _ 2 _ _ _ hX6]; simp
  have hR7 : (w6.setCell ⟨w.heap.size + 1 + 1, 2, none⟩ (.int .i64 n6)).heap[w.heap.size]? = some (itmObj noItm) := by rw [Below.heap_setCell _ _ _ _ (by simp; omega)]; exact hR6
  have F9 : Fr rb s.pv s6.pv w (w6.setCell ⟨w.heap.size + 1 + 1, 2, none⟩ (.int .i64 n6)) := F8.new (by omega) _ _
  clear h6 hX6 hR6 F8 x0 x1 x2 x3 x4 x5 xf hs6
  generalize w6.setCell ⟨w.heap.size + 1 + 1, 2, none⟩ (.int .i64 n6) = w7 at *
  have hs7 := F9.size
  refine (must_any h7 [59]).mono ?_
  rintro e w8 ⟨rfl, h8, F10⟩
  have hR8 := F10.far hR7 (by omega) (own_ne h7 hR7 (by simp))
  have hX8 := F10.far hX7 (by omega) (own_ne h7 hX7 (by simp))
  obtain ⟨p8, v8, j8⟩ := must_ps ts s6 [59]
  have F11 : Fr rb s.pv (mustSt ts s6 [59]).pv w w8 := v8.symm ▸ F9.trans F10
  have hs8 := F11.size
  obtain ⟨ba, bc, hpv⟩ := h8.pv_form
  obtain ⟨c0, c1, c2, c3⟩ := h8.cells
  rw [hpv] at c2
  have HV : Hid _ := hpv
  have hlen : (mustSt ts s6 [59]).ps.length ≤ 2000 := by have := h8.few; have := h8.hi; omega
  have h9 := h8.but hX8 (w' := w8.setCell ⟨w.heap.size + 1 + 1, 5, none⟩ (.int .i64 (mustSt ts s6 [59]).ps.length)) (fun k hk => Below.heap_setCell _ _ _ _ hk)
  have hX9 : (w8.setCell ⟨w.heap.size + 1 + 1, 5, none⟩ (.int .i64 (mustSt ts s6 [59]).ps.length)).heap[w.heap.size + 1 + 1]? = some (itmObj ⟨[], (tokAt ts s.i).text == wAllow, n6, (tokAt ts s.i).pl, 0, (mustSt ts s6 [59]).ps.length⟩) := by rw [heap_setCell_same w8 _ 5 _ _ _ hX8]; simp
  have hR9 : (w8.setCell ⟨w.heap.size + 1 + 1, 5, none⟩ (.int .i64 (mustSt ts s6 [59]).ps.length)).heap[w.heap.size]? = some (itmObj noItm) := by rw [Below.heap_setCell _ _ _ _ (by simp; omega)]; exact hR8
  have F12 : Fr rb s.pv (mustSt ts s6 [59]).pv w (w8.setCell ⟨w.heap.size + 1 + 1, 5, none⟩ (.int .i64 (mustSt ts s6 [59]).ps.length)) := F11.new (by omega) _ _
  obtain ⟨y1, y2⟩ := tail_fin (x := ⟨[], (tokAt ts s.i).text == wAllow, 0, (tokAt ts s.i).pl, 0, 0⟩) HA.out i6.out st6.out top6.out
  have HO : Hid _ := item_out (r := r) (s := s) (w := w) h9 F12 (Nat.le_refl _) hR9 (by rw [p8]; omega) y1 y2
  obtain ⟨⟨x0, x1, x2, x3, x4, x5⟩, xf⟩ := itm_cells hX8
  obtain ⟨⟨z0, z1, z2, z3, z4, z5⟩, zf⟩ := itm_cells hX9
  obtain ⟨⟨r0, r1, r2, r3, r4, r5⟩, rf⟩ := itm_cells hR9
  clear h7 hX7 hR7 F9 F10 hR8 hX8 p8 v8 j8 F11 hpv h9 hX9 hR9 F12 h8 y1 y2
  generalize (mustSt ts s6 [59]).ps.length = np at *
  go_wp2_with fail
  exact bodyPost_ret (v := itmV ⟨[], (tokAt ts s.i).text == wAllow, n6, (tokAt ts s.i).pl, 0, np⟩) (by simp [results, Tryz.results61, go_sem, itmV, cell_set_same, cell_set_off, some_set, r0, r1, r2, r3, r4, r5]) rfl HO.out
end Go.Proofs.YtfkdailfcmnjlaaGreatDoor

namespace Go.Proofs.YtfkdailfcmnjlaaGreatDoor
open Go Go.RowKit
set_option maxRecDepth 100000
attribute [local go_sem ↓] Go.wp_at_zero Go.wp_at_succ

set_option maxHeartbeats 8000000 in
theorem item_deny {f : Nat} {B rb gl cl : Nat} {ts : List Tok} {s : St} {w : World} {r : ItR} (h : RS B rb gl cl ts s w) (hts : ∀ t ∈ ts, TokOK t) (hB : B ≤ w.heap.size)
    (hgood : s.bad = false) (hnum : NumsOK s) (hw : isW (tokAt ts s.i) wDeny = true) (h1 : ¬ isW (tokAt ts s.i) wLet = true)
    (hif : isW (tokAt ts (s.i + 1)) wIf = true) (hr : itemTail f ts (s.i + 2) (s.ps.map toPt) ⟨[], (tokAt ts s.i).text == wAllow, 0, (tokAt ts s.i).pl, 0, 0⟩ = some r) :
    Calls Tryz.prog 61 #[.pointer (some ⟨rb, 0, none⟩)] w (LeftI B rb gl cl ts s w r) := by
  have e1 : Hid (seesB s.bad (tokAt ts s.i) wLet = false) := by show _ = _; unfold seesB; rw [hgood]; simpa using h1
  have e2 : Hid (seesB s.bad (tokAt ts s.i) wAllow = false) := by
    show _ = _; unfold seesB isW at *; simp at hw ⊢; intro _ _ e; rw [hw.2] at e; simp [wAllow, wDeny] at e
  have e3 : Hid (seesB s.bad (tokAt ts s.i) wDeny = true) := by show _ = _; unfold seesB; rw [hgood, hw]; rfl
  have hnx := sees_next h e3.out
  clear h1 hw
  have H2 : Hid _ := hgood
  have HR : Hid _ := hr
  have HI : Hid _ := hif
  clear hr hgood hif
  obtain ⟨c0, c1, c2, c3⟩ := h.cells
  obtain ⟨k0, k1, k2⟩ := next_word h
  have hi := h.hi
  have hn := h.hn
  have b1 : (0 : Int) ≤ (s.i : Int) := by omega
  have b2 : (s.i : Int) < (ts.length : Int) := by omega
  have l0 := World.block_lt_of_cell? w _ c0
  have l1 := World.block_lt_of_cell? w _ k0
  simp only at l0 l1
  have n0 : w.heap.size ≠ rb := by omega
  have n1 : w.heap.size + 1 ≠ rb := by omega
  have m0 : w.heap.size ≠ gl := by omega
  have m1 : w.heap.size + 1 ≠ gl := by omega
  clear c2 c3
  go_enter Tryz.func61, Tryz.ntmps61
  go_wp2_with fail
  go_region_held (fun w' => w'.cell? ⟨rb, 0, none⟩ = some (.slice (some ⟨gl, 0, none⟩) ts.length cl) ∧ w'.cell? ⟨rb, 1, none⟩ = some (.int .i64 s.i) ∧ w'.cell? ⟨gl, s.i * 3, none⟩ = some (.int .u8 (tokAt ts s.i).k) ∧ w'.cell? ⟨gl, s.i * 3 + 1, none⟩ = some (S (tokAt ts s.i).text) ∧ w'.cell? ⟨gl, s.i * 3 + 2, none⟩ = some (.int .i64 (tokAt ts s.i).pl)) (go_keep) (fail)
  rename_i hHeld
  clear hHeld
  obtain ⟨hbW, hR, hX⟩ := three_new w (itmObj noItm) (wordObj (tokAt ts s.i)) (itmObj ⟨[], (tokAt ts s.i).text == wAllow, 0, (tokAt ts s.i).pl, 0, 0⟩)
  have hW := h.below hbW
  clear c0 c1 k0 k1 k2 n0 n1 m0 m1
  go_wp2_with fail
  refine (sees_any hW wLet).mono ?_
  rintro e w1 ⟨rfl, hb1⟩
  have hW1 := hW.below hb1
  have hR1 : w1.heap[w.heap.size]? = some (itmObj noItm) := by rw [hb1.block _ (lt_of_get hR)]; exact hR
  have hX1 : w1.heap[w.heap.size + 1 + 1]? = some (itmObj ⟨[], (tokAt ts s.i).text == wAllow, 0, (tokAt ts s.i).pl, 0, 0⟩) := by rw [hb1.block _ (lt_of_get hX)]; exact hX
  have hbW1 : Below w.heap.size w w1 := hbW.trans (hb1.mono hbW.size)
  clear hbW hR hX hW hb1
  rw [e1.out]
  go_wp2_with fail
  refine (sees_any hW1 wAllow).mono ?_
  rintro e w2 ⟨rfl, hb2⟩
  have hW2 := hW1.below hb2
  have hR2 : w2.heap[w.heap.size]? = some (itmObj noItm) := by rw [hb2.block _ (lt_of_get hR1)]; exact hR1
  have hX2 : w2.heap[w.heap.size + 1 + 1]? = some (itmObj ⟨[], (tokAt ts s.i).text == wAllow, 0, (tokAt ts s.i).pl, 0, 0⟩) := by rw [hb2.block _ (lt_of_get hX1)]; exact hX1
  have hbW2 : Below w.heap.size w w2 := hbW1.trans (hb2.mono hbW1.size)
  clear hbW1 hR1 hX1 hW1 hb2
  rw [e2.out]
  go_wp2_with fail
  refine (sees_any hW2 wDeny).mono ?_
  rintro e w3 ⟨rfl, hb3⟩
  have hW3 := hW2.below hb3
  have hR3 : w3.heap[w.heap.size]? = some (itmObj noItm) := by rw [hb3.block _ (lt_of_get hR2)]; exact hR2
  have hX3 : w3.heap[w.heap.size + 1 + 1]? = some (itmObj ⟨[], (tokAt ts s.i).text == wAllow, 0, (tokAt ts s.i).pl, 0, 0⟩) := by rw [hb3.block _ (lt_of_get hX2)]; exact hX2
  have hbW3 : Below w.heap.size w w3 := hbW2.trans (hb3.mono hbW2.size)
  clear hbW2 hR2 hX2 hW2 hb3
  rw [e3.out]
  obtain ⟨c0, c1, c2, c3⟩ := hW3.cells
  have hf := hW3.free
  obtain ⟨⟨r0, r1, r2, r3, r4, r5⟩, rf⟩ := itm_cells hR3
  obtain ⟨⟨x0, x1, x2, x3, x4, x5⟩, xf⟩ := itm_cells hX3
  have hx' : (s.i : Int) + 1 ≤ 2000 := by omega
  have s1 := fun v j => set_far w3 rb w.heap.size 1 j v (by omega)
  have s2 := fun v j => set_far w3 rb (w.heap.size + 1 + 1) 1 j v (by omega)
  go_wp2_with fail
  have h4 := hW3.next hnx.1
  have F4 : Fr rb s.pv s.pv w (w3.setCell ⟨rb, 1, none⟩ (.int .i64 ((s.i : Int) + 1))) := (Fr.of_below hbW3).set l0 _ _
  have hR4 : (w3.setCell ⟨rb, 1, none⟩ (.int .i64 ((s.i : Int) + 1))).heap[w.heap.size]? = some (itmObj noItm) := by rw [Below.heap_setCell _ _ _ _ (by simp; omega)]; exact hR3
  have hX4 : (w3.setCell ⟨rb, 1, none⟩ (.int .i64 ((s.i : Int) + 1))).heap[w.heap.size + 1 + 1]? = some (itmObj ⟨[], (tokAt ts s.i).text == wAllow, 0, (tokAt ts s.i).pl, 0, 0⟩) := by rw [Below.heap_setCell _ _ _ _ (by simp; omega)]; exact hX3
  clear hW3 hbW3 hR3 hX3 c0 c1 c2 c3 hf r0 r1 r2 r3 r4 r5 rf x0 x1 x2 x3 x4 x5 xf s1 s2
  generalize w3.setCell ⟨rb, 1, none⟩ (.int .i64 ((s.i : Int) + 1)) = w4 at *
  refine (must_any h4 wIf).mono ?_
  rintro e w5 ⟨rfl, h5, F5⟩
  have e5 : mustSt ts { s with i := s.i + 1 } wIf = { s with i := s.i + 2 } := by
    unfold mustSt seesB; simp only; rw [H2.out, if_pos (by simpa using HI.out)]
  rw [e5] at h5
  have hR5 := F5.far hR4 (by omega) (own_ne h4 hR4 (by simp))
  have hX5 := F5.far hX4 (by omega) (own_ne h4 hX4 (by simp))
  have F6 : Fr rb s.pv s.pv w w5 := F4.trans F5
  have hs5 := F6.size
  clear e5 F5 F4 hR4 hX4 h4
  obtain ⟨c0, c1, c2, c3⟩ := h5.cells
  rw [H2.out] at c3
  go_wp2_with fail
  obtain ⟨a, hPa, hra⟩ := tail_split HR.out
  have HA : Hid _ := hra
  clear hra
  refine (((reads_all f) B rb gl cl ts { s with i := s.i + 2 } w5 a h5 hts (by omega)).1 (.inr ⟨H2.out, hnum, hPa⟩)).mono ?_
  rintro e w6 hL
  obtain ⟨s6, n6, rfl, h6, F7, g6, i6, st6, top6⟩ := left_st hL
  have hR6 := F7.far hR5 (by omega) (own_ne h5 hR5 (by simp))
  have hX6 := F7.far hX5 (by omega) (own_ne h5 hX5 (by simp))
  have F8 : Fr rb s.pv s6.pv w w6 := F6.trans F7
  have hs6 := F8.size
  clear hL hPa F7 F6 h5 hR5 hX5 c0 c1 c2 c3
  obtain ⟨⟨x0, x1, x2, x3, x4, x5⟩, xf⟩ := itm_cells hX6
  go_wp2_with fail
  have h7 := h6.but hX6 (w' := w6.setCell ⟨w.heap.size + 1 + 1, 2, none⟩ (.int .i64 n6)) (fun k hk => Below.heap_setCell _ _ _ _ hk)
  have hX7 : (w6.setCell ⟨w.heap.size + 1 + 1, 2, none⟩ (.int .i64 n6)).heap[w.heap.size + 1 + 1]? = some (itmObj ⟨[], (tokAt ts s.i).text == wAllow, n6, (tokAt ts s.i).pl, 0, 0⟩) := by rw [heap_setCell_same w6 _ 2 _ _ _ hX6]; simp
  have hR7 : (w6.setCell ⟨w.heap.size + 1 + 1, 2, none⟩ (.int .i64 n6)).heap[w.heap.size]? = some (itmObj noItm) := by rw [Below.heap_setCell _ _ _ _ (by simp; omega)]; exact hR6
  have F9 : Fr rb s.pv s6.pv w (w6.setCell ⟨w.heap.size + 1 + 1, 2, none⟩ (.int .i64 n6)) := F8.new (by omega) _ _
  clear h6 hX6 hR6 F8 x0 x1 x2 x3 x4 x5 xf hs6
  generalize w6.setCell ⟨w.heap.size + 1 + 1, 2, none⟩ (.int .i64 n6) = w7 at *
  have hs7 := F9.size
  refine (must_any h7 [59]).mono ?_
  rintro e w8 ⟨rfl, h8, F10⟩
  have hR8 := F10.far hR7 (by omega) (own_ne h7 hR7 (by simp))
  have hX8 := F10.far hX7 (by omega) (own_ne h7 hX7 (by simp))
  obtain ⟨p8, v8, j8⟩ := must_ps ts s6 [59]
  have F11 : Fr rb s.pv (mustSt ts s6 [59]).pv w w8 := v8.symm ▸ F9.trans F10
  have hs8 := F11.size
  obtain ⟨ba, bc, hpv⟩ := h8.pv_form
  obtain ⟨c0, c1, c2, c3⟩ := h8.cells
  rw [hpv] at c2
  have HV : Hid _ := hpv
  have hlen : (mustSt ts s6 [59]).ps.length ≤ 2000 := by have := h8.few; have := h8.hi; omega
  have h9 := h8.but hX8 (w' := w8.setCell ⟨w.heap.size + 1 + 1, 5, none⟩ (.int .i64 (mustSt ts s6 [59]).ps.length)) (fun k hk => Below.heap_setCell _ _ _ _ hk)
  have hX9 : (w8.setCell ⟨w.heap.size + 1 + 1, 5, none⟩ (.int .i64 (mustSt ts s6 [59]).ps.length)).heap[w.heap.size + 1 + 1]? = some (itmObj ⟨[], (tokAt ts s.i).text == wAllow, n6, (tokAt ts s.i).pl, 0, (mustSt ts s6 [59]).ps.length⟩) := by rw [heap_setCell_same w8 _ 5 _ _ _ hX8]; simp
  have hR9 : (w8.setCell ⟨w.heap.size + 1 + 1, 5, none⟩ (.int .i64 (mustSt ts s6 [59]).ps.length)).heap[w.heap.size]? = some (itmObj noItm) := by rw [Below.heap_setCell _ _ _ _ (by simp; omega)]; exact hR8
  have F12 : Fr rb s.pv (mustSt ts s6 [59]).pv w (w8.setCell ⟨w.heap.size + 1 + 1, 5, none⟩ (.int .i64 (mustSt ts s6 [59]).ps.length)) := F11.new (by omega) _ _
  obtain ⟨y1, y2⟩ := tail_fin (x := ⟨[], (tokAt ts s.i).text == wAllow, 0, (tokAt ts s.i).pl, 0, 0⟩) HA.out i6.out st6.out top6.out
  have HO : Hid _ := item_out (r := r) (s := s) (w := w) h9 F12 (Nat.le_refl _) hR9 (by rw [p8]; omega) y1 y2
  obtain ⟨⟨x0, x1, x2, x3, x4, x5⟩, xf⟩ := itm_cells hX8
  obtain ⟨⟨z0, z1, z2, z3, z4, z5⟩, zf⟩ := itm_cells hX9
  obtain ⟨⟨r0, r1, r2, r3, r4, r5⟩, rf⟩ := itm_cells hR9
  clear h7 hX7 hR7 F9 F10 hR8 hX8 p8 v8 j8 F11 hpv h9 hX9 hR9 F12 h8 y1 y2
  generalize (mustSt ts s6 [59]).ps.length = np at *
  go_wp2_with fail
  exact bodyPost_ret (v := itmV ⟨[], (tokAt ts s.i).text == wAllow, n6, (tokAt ts s.i).pl, 0, np⟩) (by simp [results, Tryz.results61, go_sem, itmV, cell_set_same, cell_set_off, some_set, r0, r1, r2, r3, r4, r5]) rfl HO.out

set_option maxHeartbeats 8000000 in
theorem item_allow_no {B rb gl cl : Nat} {ts : List Tok} {s : St} {w : World} {r : ItR} (h : RS B rb gl cl ts s w) (hB : B ≤ w.heap.size)
    (hgood : s.bad = false) (hw : isW (tokAt ts s.i) wAllow = true) (h1 : ¬ isW (tokAt ts s.i) wLet = true)
    (hif : ¬ isW (tokAt ts (s.i + 1)) wIf = true) (hr : r = ⟨false, s.i + 1, [], noItm⟩) :
    Calls Tryz.prog 61 #[.pointer (some ⟨rb, 0, none⟩)] w (LeftI B rb gl cl ts s w r) := by
  have e1 : Hid (seesB s.bad (tokAt ts s.i) wLet = false) := by show _ = _; unfold seesB; rw [hgood]; simpa using h1
  have e2 : Hid (seesB s.bad (tokAt ts s.i) wAllow = true) := by show _ = _; unfold seesB; rw [hgood, hw]; rfl
  have e3 : Hid (seesB s.bad (tokAt ts s.i) wDeny = false) := by
    show _ = _; unfold seesB isW at *; simp at hw ⊢; intro _ _ e; rw [hw.2] at e; simp [wAllow, wDeny] at e
  have hnx := sees_next h e2.out
  clear h1 hw
  have H2 : Hid _ := hgood
  have HR : Hid _ := hr
  have HI : Hid _ := hif
  clear hr hgood hif
  obtain ⟨c0, c1, c2, c3⟩ := h.cells
  obtain ⟨k0, k1, k2⟩ := next_word h
  have hi := h.hi
  have hn := h.hn
  have b1 : (0 : Int) ≤ (s.i : Int) := by omega
  have b2 : (s.i : Int) < (ts.length : Int) := by omega
  have l0 := World.block_lt_of_cell? w _ c0
  have l1 := World.block_lt_of_cell? w _ k0
  simp only at l0 l1
  have n0 : w.heap.size ≠ rb := by omega
  have n1 : w.heap.size + 1 ≠ rb := by omega
  have m0 : w.heap.size ≠ gl := by omega
  have m1 : w.heap.size + 1 ≠ gl := by omega
  clear c2 c3
  go_enter Tryz.func61, Tryz.ntmps61
  go_wp2_with fail
  go_region_held (fun w' => w'.cell? ⟨rb, 0, none⟩ = some (.slice (some ⟨gl, 0, none⟩) ts.length cl) ∧ w'.cell? ⟨rb, 1, none⟩ = some (.int .i64 s.i) ∧ w'.cell? ⟨gl, s.i * 3, none⟩ = some (.int .u8 (tokAt ts s.i).k) ∧ w'.cell? ⟨gl, s.i * 3 + 1, none⟩ = some (S (tokAt ts s.i).text) ∧ w'.cell? ⟨gl, s.i * 3 + 2, none⟩ = some (.int .i64 (tokAt ts s.i).pl)) (go_keep) (fail)
  rename_i hHeld
  clear hHeld
  obtain ⟨hbW, hR, hX⟩ := three_new w (itmObj noItm) (wordObj (tokAt ts s.i)) (itmObj ⟨[], (tokAt ts s.i).text == wAllow, 0, (tokAt ts s.i).pl, 0, 0⟩)
  have hW := h.below hbW
  clear c0 c1 k0 k1 k2 n0 n1 m0 m1
  go_wp2_with fail
  refine (sees_any hW wLet).mono ?_
  rintro e w1 ⟨rfl, hb1⟩
  have hW1 := hW.below hb1
  have hR1 : w1.heap[w.heap.size]? = some (itmObj noItm) := by rw [hb1.block _ (lt_of_get hR)]; exact hR
  have hX1 : w1.heap[w.heap.size + 1 + 1]? = some (itmObj ⟨[], (tokAt ts s.i).text == wAllow, 0, (tokAt ts s.i).pl, 0, 0⟩) := by rw [hb1.block _ (lt_of_get hX)]; exact hX
  have hbW1 : Below w.heap.size w w1 := hbW.trans (hb1.mono hbW.size)
  clear hbW hR hX hW hb1
  rw [e1.out]
  go_wp2_with fail
  refine (sees_any hW1 wAllow).mono ?_
  rintro e w2 ⟨rfl, hb2⟩
  have hW2 := hW1.below hb2
  have hR2 : w2.heap[w.heap.size]? = some (itmObj noItm) := by rw [hb2.block _ (lt_of_get hR1)]; exact hR1
  have hX2 : w2.heap[w.heap.size + 1 + 1]? = some (itmObj ⟨[], (tokAt ts s.i).text == wAllow, 0, (tokAt ts s.i).pl, 0, 0⟩) := by rw [hb2.block _ (lt_of_get hX1)]; exact hX1
  have hbW2 : Below w.heap.size w w2 := hbW1.trans (hb2.mono hbW1.size)
  clear hbW1 hR1 hX1 hW1 hb2
  rw [e2.out]
  go_wp2_with fail
  refine (sees_any hW2 wDeny).mono ?_
  rintro e w3 ⟨rfl, hb3⟩
  have hW3 := hW2.below hb3
  have hR3 : w3.heap[w.heap.size]? = some (itmObj noItm) := by rw [hb3.block _ (lt_of_get hR2)]; exact hR2
  have hX3 : w3.heap[w.heap.size + 1 + 1]? = some (itmObj ⟨[], (tokAt ts s.i).text == wAllow, 0, (tokAt ts s.i).pl, 0, 0⟩) := by rw [hb3.block _ (lt_of_get hX2)]; exact hX2
  have hbW3 : Below w.heap.size w w3 := hbW2.trans (hb3.mono hbW2.size)
  clear hbW2 hR2 hX2 hW2 hb3
  rw [e3.out]
  obtain ⟨c0, c1, c2, c3⟩ := hW3.cells
  have hf := hW3.free
  obtain ⟨⟨r0, r1, r2, r3, r4, r5⟩, rf⟩ := itm_cells hR3
  obtain ⟨⟨x0, x1, x2, x3, x4, x5⟩, xf⟩ := itm_cells hX3
  have hx' : (s.i : Int) + 1 ≤ 2000 := by omega
  have s1 := fun v j => set_far w3 rb w.heap.size 1 j v (by omega)
  have s2 := fun v j => set_far w3 rb (w.heap.size + 1 + 1) 1 j v (by omega)
  go_wp2_with fail
  have h4 := hW3.next hnx.1
  have F4 : Fr rb s.pv s.pv w (w3.setCell ⟨rb, 1, none⟩ (.int .i64 ((s.i : Int) + 1))) := (Fr.of_below hbW3).set l0 _ _
  have hR4 : (w3.setCell ⟨rb, 1, none⟩ (.int .i64 ((s.i : Int) + 1))).heap[w.heap.size]? = some (itmObj noItm) := by rw [Below.heap_setCell _ _ _ _ (by simp; omega)]; exact hR3
  have hX4 : (w3.setCell ⟨rb, 1, none⟩ (.int .i64 ((s.i : Int) + 1))).heap[w.heap.size + 1 + 1]? = some (itmObj ⟨[], (tokAt ts s.i).text == wAllow, 0, (tokAt ts s.i).pl, 0, 0⟩) := by rw [Below.heap_setCell _ _ _ _ (by simp; omega)]; exact hX3
  clear hW3 hbW3 hR3 hX3 c0 c1 c2 c3 hf r0 r1 r2 r3 r4 r5 rf x0 x1 x2 x3 x4 x5 xf s1 s2
  generalize w3.setCell ⟨rb, 1, none⟩ (.int .i64 ((s.i : Int) + 1)) = w4 at *
  refine (must_any h4 wIf).mono ?_
  rintro e w5 ⟨rfl, h5, F5⟩
  have e5 : mustSt ts { s with i := s.i + 1 } wIf = { s with i := s.i + 1, bad := true } := by
    unfold mustSt seesB; simp only; rw [H2.out, if_neg (by simpa using HI.out)]
  rw [e5] at h5
  have hR5 := F5.far hR4 (by omega) (own_ne h4 hR4 (by simp))
  have hX5 := F5.far hX4 (by omega) (own_ne h4 hX4 (by simp))
  have F6 : Fr rb s.pv s.pv w w5 := F4.trans F5
  have hs5 := F6.size
  clear e5 F5 F4 hR4 hX4 h4
  obtain ⟨c0, c1, c2, c3⟩ := h5.cells
  obtain ⟨⟨x0, x1, x2, x3, x4, x5⟩, xf⟩ := itm_cells hX5
  obtain ⟨⟨r0, r1, r2, r3, r4, r5⟩, rf⟩ := itm_cells hR5
  have HO : Hid _ := item_out (r := r) (x := ⟨[], (tokAt ts s.i).text == wAllow, 0, (tokAt ts s.i).pl, 0, 0⟩) (s := s) (w := w) h5 F6 (Nat.le_refl _) hR5 ⟨Nat.le_refl _, by simp⟩ (by rw [HR.out]) (.inr ⟨by rw [HR.out], rfl⟩)
  go_wp2_with fail
  exact bodyPost_ret (v := itmV ⟨[], (tokAt ts s.i).text == wAllow, 0, (tokAt ts s.i).pl, 0, 0⟩) (by simp [results, Tryz.results61, go_sem, itmV, cell_set_same, cell_set_off, some_set, r0, r1, r2, r3, r4, r5]) rfl HO.out

set_option maxHeartbeats 8000000 in
theorem item_deny_no {B rb gl cl : Nat} {ts : List Tok} {s : St} {w : World} {r : ItR} (h : RS B rb gl cl ts s w) (hB : B ≤ w.heap.size)
    (hgood : s.bad = false) (hw : isW (tokAt ts s.i) wDeny = true) (h1 : ¬ isW (tokAt ts s.i) wLet = true)
    (hif : ¬ isW (tokAt ts (s.i + 1)) wIf = true) (hr : r = ⟨false, s.i + 1, [], noItm⟩) :
    Calls Tryz.prog 61 #[.pointer (some ⟨rb, 0, none⟩)] w (LeftI B rb gl cl ts s w r) := by
  have e1 : Hid (seesB s.bad (tokAt ts s.i) wLet = false) := by show _ = _; unfold seesB; rw [hgood]; simpa using h1
  have e2 : Hid (seesB s.bad (tokAt ts s.i) wAllow = false) := by
    show _ = _; unfold seesB isW at *; simp at hw ⊢; intro _ _ e; rw [hw.2] at e; simp [wAllow, wDeny] at e
  have e3 : Hid (seesB s.bad (tokAt ts s.i) wDeny = true) := by show _ = _; unfold seesB; rw [hgood, hw]; rfl
  have hnx := sees_next h e3.out
  clear h1 hw
  have H2 : Hid _ := hgood
  have HR : Hid _ := hr
  have HI : Hid _ := hif
  clear hr hgood hif
  obtain ⟨c0, c1, c2, c3⟩ := h.cells
  obtain ⟨k0, k1, k2⟩ := next_word h
  have hi := h.hi
  have hn := h.hn
  have b1 : (0 : Int) ≤ (s.i : Int) := by omega
  have b2 : (s.i : Int) < (ts.length : Int) := by omega
  have l0 := World.block_lt_of_cell? w _ c0
  have l1 := World.block_lt_of_cell? w _ k0
  simp only at l0 l1
  have n0 : w.heap.size ≠ rb := by omega
  have n1 : w.heap.size + 1 ≠ rb := by omega
  have m0 : w.heap.size ≠ gl := by omega
  have m1 : w.heap.size + 1 ≠ gl := by omega
  clear c2 c3
  go_enter Tryz.func61, Tryz.ntmps61
  go_wp2_with fail
  go_region_held (fun w' => w'.cell? ⟨rb, 0, none⟩ = some (.slice (some ⟨gl, 0, none⟩) ts.length cl) ∧ w'.cell? ⟨rb, 1, none⟩ = some (.int .i64 s.i) ∧ w'.cell? ⟨gl, s.i * 3, none⟩ = some (.int .u8 (tokAt ts s.i).k) ∧ w'.cell? ⟨gl, s.i * 3 + 1, none⟩ = some (S (tokAt ts s.i).text) ∧ w'.cell? ⟨gl, s.i * 3 + 2, none⟩ = some (.int .i64 (tokAt ts s.i).pl)) (go_keep) (fail)
  rename_i hHeld
  clear hHeld
  obtain ⟨hbW, hR, hX⟩ := three_new w (itmObj noItm) (wordObj (tokAt ts s.i)) (itmObj ⟨[], (tokAt ts s.i).text == wAllow, 0, (tokAt ts s.i).pl, 0, 0⟩)
  have hW := h.below hbW
  clear c0 c1 k0 k1 k2 n0 n1 m0 m1
  go_wp2_with fail
  refine (sees_any hW wLet).mono ?_
  rintro e w1 ⟨rfl, hb1⟩
  have hW1 := hW.below hb1
  have hR1 : w1.heap[w.heap.size]? = some (itmObj noItm) := by rw [hb1.block _ (lt_of_get hR)]; exact hR
  have hX1 : w1.heap[w.heap.size + 1 + 1]? = some (itmObj ⟨[], (tokAt ts s.i).text == wAllow, 0, (tokAt ts s.i).pl, 0, 0⟩) := by rw [hb1.block _ (lt_of_get hX)]; exact hX
  have hbW1 : Below w.heap.size w w1 := hbW.trans (hb1.mono hbW.size)
  clear hbW hR hX hW hb1
  rw [e1.out]
  go_wp2_with fail
  refine (sees_any hW1 wAllow).mono ?_
  rintro e w2 ⟨rfl, hb2⟩
  have hW2 := hW1.below hb2
  have hR2 : w2.heap[w.heap.size]? = some (itmObj noItm) := by rw [hb2.block _ (lt_of_get hR1)]; exact hR1
  have hX2 : w2.heap[w.heap.size + 1 + 1]? = some (itmObj ⟨[], (tokAt ts s.i).text == wAllow, 0, (tokAt ts s.i).pl, 0, 0⟩) := by rw [hb2.block _ (lt_of_get hX1)]; exact hX1
  have hbW2 : Below w.heap.size w w2 := hbW1.trans (hb2.mono hbW1.size)
  clear hbW1 hR1 hX1 hW1 hb2
  rw [e2.out]
  go_wp2_with fail
  refine (sees_any hW2 wDeny).mono ?_
  rintro e w3 ⟨rfl, hb3⟩
  have hW3 := hW2.below hb3
  have hR3 : w3.heap[w.heap.size]? = some (itmObj noItm) := by rw [hb3.block _ (lt_of_get hR2)]; exact hR2
  have hX3 : w3.heap[w.heap.size + 1 + 1]? = some (itmObj ⟨[], (tokAt ts s.i).text == wAllow, 0, (tokAt ts s.i).pl, 0, 0⟩) := by rw [hb3.block _ (lt_of_get hX2)]; exact hX2
  have hbW3 : Below w.heap.size w w3 := hbW2.trans (hb3.mono hbW2.size)
  clear hbW2 hR2 hX2 hW2 hb3
  rw [e3.out]
  obtain ⟨c0, c1, c2, c3⟩ := hW3.cells
  have hf := hW3.free
  obtain ⟨⟨r0, r1, r2, r3, r4, r5⟩, rf⟩ := itm_cells hR3
  obtain ⟨⟨x0, x1, x2, x3, x4, x5⟩, xf⟩ := itm_cells hX3
  have hx' : (s.i : Int) + 1 ≤ 2000 := by omega
  have s1 := fun v j => set_far w3 rb w.heap.size 1 j v (by omega)
  have s2 := fun v j => set_far w3 rb (w.heap.size + 1 + 1) 1 j v (by omega)
  go_wp2_with fail
  have h4 := hW3.next hnx.1
  have F4 : Fr rb s.pv s.pv w (w3.setCell ⟨rb, 1, none⟩ (.int .i64 ((s.i : Int) + 1))) := (Fr.of_below hbW3).set l0 _ _
  have hR4 : (w3.setCell ⟨rb, 1, none⟩ (.int .i64 ((s.i : Int) + 1))).heap[w.heap.size]? = some (itmObj noItm) := by rw [Below.heap_setCell _ _ _ _ (by simp; omega)]; exact hR3
  have hX4 : (w3.setCell ⟨rb, 1, none⟩ (.int .i64 ((s.i : Int) + 1))).heap[w.heap.size + 1 + 1]? = some (itmObj ⟨[], (tokAt ts s.i).text == wAllow, 0, (tokAt ts s.i).pl, 0, 0⟩) := by rw [Below.heap_setCell _ _ _ _ (by simp; omega)]; exact hX3
  clear hW3 hbW3 hR3 hX3 c0 c1 c2 c3 hf r0 r1 r2 r3 r4 r5 rf x0 x1 x2 x3 x4 x5 xf s1 s2
  generalize w3.setCell ⟨rb, 1, none⟩ (.int .i64 ((s.i : Int) + 1)) = w4 at *
  refine (must_any h4 wIf).mono ?_
  rintro e w5 ⟨rfl, h5, F5⟩
  have e5 : mustSt ts { s with i := s.i + 1 } wIf = { s with i := s.i + 1, bad := true } := by
    unfold mustSt seesB; simp only; rw [H2.out, if_neg (by simpa using HI.out)]
  rw [e5] at h5
  have hR5 := F5.far hR4 (by omega) (own_ne h4 hR4 (by simp))
  have hX5 := F5.far hX4 (by omega) (own_ne h4 hX4 (by simp))
  have F6 : Fr rb s.pv s.pv w w5 := F4.trans F5
  have hs5 := F6.size
  clear e5 F5 F4 hR4 hX4 h4
  obtain ⟨c0, c1, c2, c3⟩ := h5.cells
  obtain ⟨⟨x0, x1, x2, x3, x4, x5⟩, xf⟩ := itm_cells hX5
  obtain ⟨⟨r0, r1, r2, r3, r4, r5⟩, rf⟩ := itm_cells hR5
  have HO : Hid _ := item_out (r := r) (x := ⟨[], (tokAt ts s.i).text == wAllow, 0, (tokAt ts s.i).pl, 0, 0⟩) (s := s) (w := w) h5 F6 (Nat.le_refl _) hR5 ⟨Nat.le_refl _, by simp⟩ (by rw [HR.out]) (.inr ⟨by rw [HR.out], rfl⟩)
  go_wp2_with fail
  exact bodyPost_ret (v := itmV ⟨[], (tokAt ts s.i).text == wAllow, 0, (tokAt ts s.i).pl, 0, 0⟩) (by simp [results, Tryz.results61, go_sem, itmV, cell_set_same, cell_set_off, some_set, r0, r1, r2, r3, r4, r5]) rfl HO.out
end Go.Proofs.YtfkdailfcmnjlaaGreatDoor
