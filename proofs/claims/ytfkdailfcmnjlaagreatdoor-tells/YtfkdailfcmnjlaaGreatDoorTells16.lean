/-
  The program's reader: each item is told which of its kind it is. The program's reader: all items. Trees in the program's memory, with any notes of lets; how many parts they have. How deep trees in the program's memory are. The program's limits: is anything too much? Lists of names in the program's memory: the library's Index and Contains of them.
-/
import Derived.Test.YtfkdailfcmnjlaaGreatDoorTells01
import Derived.Test.YtfkdailfcmnjlaaGreatDoorTells02
import Derived.Test.YtfkdailfcmnjlaaGreatDoorTells04
import Derived.Test.YtfkdailfcmnjlaaGreatDoorTells05
import Derived.Test.YtfkdailfcmnjlaaGreatDoorTells06
import Derived.Test.YtfkdailfcmnjlaaGreatDoorTells07
import Derived.Test.YtfkdailfcmnjlaaGreatDoorTells08
import Derived.Test.YtfkdailfcmnjlaaGreatDoorTells10
import Derived.Test.YtfkdailfcmnjlaaGreatDoorTells11
import Derived.Test.YtfkdailfcmnjlaaGreatDoorTells12
import Derived.Test.YtfkdailfcmnjlaaGreatDoorTells13
import Derived.Test.YtfkdailfcmnjlaaGreatDoorTells14
import Derived.Test.YtfkdailfcmnjlaaGreatDoorTells15
import Derived.Test.YtfkdailfcmnjlaaGreatDoorLays
import Derived.WalkKit
import Derived.Deep.QuietTactic
import Derived.BigQuiet
import Derived.WalkSpells
import GoSem.Op.String
import Derived.Deep.AppendLies
import Derived.Deep.RegionHeld3
import Derived.Deep.DrawnRows
import Derived.Deep.RegionHeldLaw
import Derived.Deep.RegionLaw
import Derived.Lib.ParseIntBCases
set_option linter.unusedVariables false
set_option linter.unusedSimpArgs false
namespace Go.Proofs.YtfkdailfcmnjlaaGreatDoor
open Go Go.RowKit
set_option maxRecDepth 100000
attribute [local go_sem ↓] Go.wp_at_zero Go.wp_at_succ

/-- The items with their numbers. -/
def numF : Nat → Nat → List (Tok × Tok × Nat × Int) → List (Tok × Tok × Nat × Int)
  | _, _, [] => []
  | l, r, y :: ys => if kindOf y.1 = 11 then (y.1, y.2.1, y.2.2.1, (l : Int)) :: numF (l + 1) r ys else (y.1, y.2.1, y.2.2.1, ((r + 1 : Nat) : Int)) :: numF l (r + 1) ys
/-- Every item has its number. -/
def Numb : Nat → Nat → List Itm → List (Tok × Tok × Nat × Int) → Prop
  | _, _, [], [] => True
  | l, r, x :: xs, y :: ys => (x.name ≠ [] ∧ y.2.2.2 = (l : Int) ∧ Numb (l + 1) r xs ys) ∨ (x.name = [] ∧ y.2.2.2 = ((r + 1 : Nat) : Int) ∧ Numb l (r + 1) xs ys)
  | _, _, _, _ => False
theorem numF_len : ∀ (l r : Nat) (ys : List (Tok × Tok × Nat × Int)), (numF l r ys).length = ys.length
  | _, _, [] => rfl
  | l, r, y :: ys => by
    rw [numF]
    split
    · simp [numF_len (l + 1) r ys]
    · simp [numF_len l (r + 1) ys]
theorem itOf_let {x : Itm} {t u : Tok} (h : ItOf x t u) : (x.name ≠ [] ∧ kindOf t = 11) ∨ (x.name = [] ∧ kindOf t ≠ 11) := by
  rcases h with h | h
  · exact .inl ⟨h.1, h.2.1⟩
  · exact .inr ⟨h.1, by rw [h.2.1]; split <;> decide⟩
theorem numb_ok {C : Nat → Nat → Prop} : ∀ {xs : List Itm} {ys : List (Tok × Tok × Nat × Int)} (l r : Nat), ItemsAt C xs ys → Numb l r xs (numF l r ys) ∧ ItemsAt C xs (numF l r ys)
  | [], [], _, _, _ => ⟨trivial, trivial⟩
  | x :: xs, y :: ys, l, r, h => by
    obtain ⟨⟨h1, h2⟩, h3⟩ := h
    rw [numF]
    rcases itOf_let h2 with ⟨hn, hk⟩ | ⟨hn, hk⟩
    · rw [if_pos hk]
      obtain ⟨i1, i2⟩ := numb_ok (l + 1) r h3
      exact ⟨.inl ⟨hn, rfl, i1⟩, ⟨h1, h2⟩, i2⟩
    · rw [if_neg hk]
      obtain ⟨i1, i2⟩ := numb_ok l (r + 1) h3
      exact ⟨.inr ⟨hn, rfl, i1⟩, ⟨h1, h2⟩, i2⟩

/-- A row of items, its cells. -/
theorem row_cells {w : World} {base : Nat} {v : Value} {ys : List (Tok × Tok × Nat × Int)} (h : w.ownsRow base 163 10 v ys.length (iCells ys)) : ∃ a cap, v = .slice a ys.length cap ∧ ∀ k, k < ys.length → ∃ g, a = some ⟨g, 0, none⟩ ∧ (∃ cs, w.heap[g]? = some (.cells cs 163 (0, 0))) ∧ ∀ j, j < 10 → w.cell? ⟨g, k * 10 + j, none⟩ = (icell (ys.getD k (zTok, zTok, 0, 0)))[j]? := by
  obtain ⟨hl, h⟩ := h
  rcases h with ⟨rfl, h0⟩ | ⟨g, cap, cur, rfl, hb, hg, h1, h2, h3, h4⟩
  · exact ⟨none, 0, by rw [h0], fun k hk => by omega⟩
  · refine ⟨_, cap, rfl, fun k hk => ⟨g, rfl, ⟨cur, hg⟩, fun j hj => ?_⟩⟩
    rw [cell_of_row w g (k * 10 + j) _ _ _ hg]
    have e1 : cur[k * 10 + j]? = (cur.toList.take (ys.length * 10))[k * 10 + j]? := by
      rw [List.getElem?_take_of_lt (by omega)]; simp
    rw [e1, h4]
    have : ∀ (ys : List (Tok × Tok × Nat × Int)) (k : Nat), k < ys.length → (iCells ys)[k * 10 + j]? = (icell (ys.getD k (zTok, zTok, 0, 0)))[j]? := by
      intro ys
      induction ys with
      | nil => intro k hk; simp at hk
      | cons y ys ih =>
        intro k hk
        have e2 : iCells (y :: ys) = icell y ++ iCells ys := rfl
        have e3 : (icell y).length = 10 := rfl
        cases k with
        | zero => rw [e2, List.getElem?_append_left (by omega)]; simp
        | succ k =>
          rw [e2, List.getElem?_append_right (by omega), e3, show (k + 1) * 10 + j - 10 = k * 10 + j from by omega, ih k (by simpa using hk)]
          rfl
    exact this ys k hk

/-- A cell of a row is written. -/
theorem row_setCell {w : World} {base : Nat} {e : TypeId} {size g n cap : Nat} {xs : List Value} (h : w.ownsRow base e size (.slice (some ⟨g, 0, none⟩) n cap) n xs) {j : Nat} (hj : j < n * size) (u : Value) : (w.setCell ⟨g, j, none⟩ u).ownsRow base e size (.slice (some ⟨g, 0, none⟩) n cap) n (xs.set j u) := by
  obtain ⟨hl, h⟩ := h
  refine ⟨by simpa using hl, ?_⟩
  rcases h with ⟨h, _⟩ | ⟨g', cap', cur, h, h1, h2, h3, h4, h5, h6⟩
  · simp at h
  · simp only [Value.slice.injEq, Option.some.injEq, Addr.mk.injEq, and_true, true_and] at h
    obtain ⟨rfl, rfl⟩ := h
    refine .inr ⟨g, cap, cur.setIfInBounds j u, rfl, h1, heap_setCell_same w g j _ _ u h2, h3, h4, by simpa using h5, ?_⟩
    rw [← h6]
    simp [List.take_set]
theorem grown_set {w w' : World} {g : Nat} (h : w.grownBy w' (some g)) (j : Nat) (u : Value) : w.grownBy (w'.setCell ⟨g, j, none⟩ u) (some g) :=
  ⟨h.os, h.tape, h.output, by simpa using h.size, fun k hk hn => (Below.heap_setCell _ _ _ _ (by simpa using hn)).trans (h.block k hk hn)⟩
theorem iCells_set (d : List (Tok × Tok × Nat × Int)) (y : Tok × Tok × Nat × Int) (r : List (Tok × Tok × Nat × Int)) (n : Int) : (iCells (d ++ y :: r)).set (d.length * 10 + 8) (.int .i64 n) = iCells (d ++ (y.1, y.2.1, y.2.2.1, n) :: r) := by
  have e : ∀ a b : List (Tok × Tok × Nat × Int), iCells (a ++ b) = iCells a ++ iCells b := fun a b => by simp [iCells]
  rw [e, e, ← iCells_len d, List.set_append_right _ _ (by omega)]
  congr 1
  rw [show (iCells d).length + 8 - (iCells d).length = 8 by omega]
  simp [iCells, icell]
set_option maxHeartbeats 4000000 in
theorem count_any {ys : List (Tok × Tok × Nat × Int)} {base : Nat} {v : Value} {w : World} (hrow : w.ownsRow base 163 10 v ys.length (iCells ys)) (hy : ys.length ≤ 1001) :
    Calls Tryz.prog 105 #[v] w fun e w' => e = .returned (.tuple #[]) ∧ w'.ownsRow base 163 10 v ys.length (iCells (numF 0 0 ys)) ∧ w.grownBy w' v.ownBlock := by
  have hsl : ∃ a cap, v = .slice a ys.length cap := by
    rcases hrow.2 with ⟨rfl, h0⟩ | ⟨g, cap, cur, rfl, _⟩
    · exact ⟨none, 0, by rw [h0]⟩
    · exact ⟨_, cap, rfl⟩
  obtain ⟨a, cap, rfl⟩ := hsl
  have hyl := hy
  clear hy
  generalize hn : ys.length = n at *
  have HN : Hid _ := hn
  clear hn
  have HW : Hid (w.ownsRow base 163 10 (.slice a n cap) n (iCells ys)) := hrow
  clear hrow
  have HNF : Hid (numF 0 0 ys = numF 0 0 ys) := rfl
  generalize hnf : numF 0 0 ys = nf at *
  have HF : Hid _ := hnf
  clear hnf HNF
  go_enter Tryz.func105, Tryz.ntmps105
  go_wp2_with fail
  go_loopw [2, 3, 7] (fun lv rv kv wr => ∃ (k l r : Nat) (d rest : List (Tok × Tok × Nat × Int)), k ≤ n ∧ l ≤ k ∧ r ≤ k ∧ kv = .int .i64 k ∧ lv = .int .i64 l ∧ rv = .int .i64 r ∧ Hid (d.length = k ∧ k + rest.length = n ∧ nf = d ++ numF l r rest ∧ wr.ownsRow base 163 10 (.slice a n cap) n (iCells (d ++ rest)) ∧ w.grownBy wr (Value.slice a n cap).ownBlock)) (fun _ _ kv _ => n - (intOf kv).toNat)
  case atStart => exact ⟨0, 0, 0, [], ys, Nat.zero_le _, Nat.zero_le _, Nat.zero_le _, rfl, rfl, rfl, rfl, by rw [Nat.zero_add]; exact HN.out, HF.out.symm, HW.out, World.grownBy.refl _ _⟩
  case round =>
    obtain ⟨k, l, r, d, rest, hk, hl, hr, rfl, rfl, rfl, HI⟩ := hrel
    by_cases hlt : k < n
    · obtain ⟨h1, h2, h3, h4, h5⟩ := HI.out
      clear HI
      cases rest with
      | nil => simp at h2; omega
      | cons y q =>
        have hown := h4
        rcases h4.2 with ⟨_, h0⟩ | ⟨g, cap', cur, e, hb, hg, _⟩
        · omega
        · simp only [Value.slice.injEq, true_and] at e
          obtain ⟨rfl, rfl⟩ := e
          have hcell : ∀ j, j < 10 → wr.cell? ⟨g, k * 10 + j, none⟩ = (icell y)[j]? := fun j hj => by
            have hown' : wr.ownsRow base 163 10 (.slice (some ⟨g, 0, none⟩) (d ++ y :: q).length cap) (d ++ y :: q).length (iCells (d ++ y :: q)) := by
              have e : (d ++ y :: q).length = n := by simp at h2 ⊢; omega
              rw [e]; exact hown
            obtain ⟨a', cap', e, hc⟩ := row_cells hown'
            obtain ⟨g', e', _, hc⟩ := hc k (by simp; omega)
            simp only [Value.slice.injEq, true_and] at e
            rw [← e.1] at e'
            simp at e'
            rw [← e'] at hc
            have e3 : (d ++ y :: q).getD k (zTok, zTok, 0, 0) = y := by
              rw [List.getD_eq_getElem?_getD, List.getElem?_append_right (by omega), h1]; simp
            rw [e3] at hc
            exact hc j hj
          have c0 : wr.cell? ⟨g, k * 10, none⟩ = some (.int .i64 (kindOf y.1)) := hcell 0 (by omega)
          have c8 : wr.cell? ⟨g, k * 10 + 8, none⟩ = some (.int .i64 y.2.2.2) := hcell 8 (by omega)
          have hfz : ∀ j, wr.frozen? ⟨g, j, none⟩ = false := fun j => by simp [World.frozen?, hg]
          have hset := fun (m : Int) => row_setCell hown (j := k * 10 + 8) (by omega) (.int .i64 m)
          have hset2 := fun (m : Int) => iCells_set d y q m
          rw [h1] at hset2
          have HS : Hid (∀ m : Int, (wr.setCell ⟨g, k * 10 + 8, none⟩ (.int .i64 m)).ownsRow base 163 10 (.slice (some ⟨g, 0, none⟩) n cap) n (iCells (d ++ (y.1, y.2.1, y.2.2.1, m) :: q)) ∧ w.grownBy (wr.setCell ⟨g, k * 10 + 8, none⟩ (.int .i64 m)) (Value.slice (some ⟨g, 0, none⟩) n cap).ownBlock) := fun m => ⟨by rw [← hset2 m]; exact hset m, grown_set h5 _ _⟩
          have H3 : Hid _ := h3
          have H1 : Hid _ := h1
          have H2 : Hid _ := h2
          clear hset hset2 hown h4 h5 h3 h1 h2 hcell hg
          by_cases hk11 : kindOf y.1 = 11
          · rw [hk11] at c0
            go_wp2_with fail
            go_roundw
            case rel =>
              refine ⟨k + 1, l + 1, r, d ++ [(y.1, y.2.1, y.2.2.1, (l : Int))], q, by omega, by omega, by omega, by simp, by simp, rfl, by simp [H1.out], by have := H2.out; simp at this; omega, ?_, ?_, (HS.out l).2⟩
              · rw [H3.out, numF, if_pos hk11]; simp
              · have := (HS.out l).1
                simpa using this
            case measure => simp [intOf]; omega
          · have hk2 : ((kindOf y.1 : Int) == (11 : Int)) = false := by
              have : ¬ ((kindOf y.1 : Int) = 11) := by omega
              simpa using this
            have HK : Hid _ := hk11
            clear hk11
            generalize kindOf y.1 = kd at c0 hk2
            go_wp2_with fail
            go_roundw
            case rel =>
              refine ⟨k + 1, l, r + 1, d ++ [(y.1, y.2.1, y.2.2.1, ((r + 1 : Nat) : Int))], q, by omega, by omega, by omega, by simp, rfl, by simp, by simp [H1.out], by have := H2.out; simp at this; omega, ?_, ?_, ?_⟩
              · rw [H3.out, numF, if_neg HK.out]; simp
              · have := (HS.out ((r + 1 : Nat) : Int)).1
                simpa using this
              · have := (HS.out ((r + 1 : Nat) : Int)).2
                simpa using this
            case measure => simp [intOf]; omega
    · have hke : k = n := by omega
      subst hke
      obtain ⟨h1, h2, h3, h4, h5⟩ := HI.out
      have hr : rest = [] := by cases rest with
        | nil => rfl
        | cons y q => simp at h2
      subst hr
      have HE : Hid (wr.ownsRow base 163 10 (.slice a k cap) k (iCells nf) ∧ w.grownBy wr (Value.slice a k cap).ownBlock) := ⟨by rw [h3]; exact h4, h5⟩
      clear h1 h2 h3 h4 h5 HI
      go_wp2_with fail
      go_end0
      exact ⟨rfl, HE.out⟩
end Go.Proofs.YtfkdailfcmnjlaaGreatDoor

namespace Go.Proofs.YtfkdailfcmnjlaaGreatDoor
open Go Go.RowKit
set_option maxRecDepth 100000
attribute [local go_sem ↓] Go.wp_at_zero Go.wp_at_succ

/-- What reading all items answers. -/
def ParseAns (ts : List Tok) (R : AllR) (w : World) (e : Ending) (w' : World) : Prop :=
  Below w.heap.size w w' ∧ ((R.ok = false ∧ e = .returned (.tuple #[.slice none 0 0, .int .i64 (tokAt ts R.i).pl, .bool false])) ∨
    (R.ok = true ∧ ∃ v ys, e = .returned (.tuple #[v, .int .i64 0, .bool true]) ∧ ys.length ≤ 1001 ∧ w'.ownsRow w.heap.size 163 10 v ys.length (iCells ys) ∧ ItemsAt (CondAt R.L w.heap.size w') R.xs ys ∧ Numb 0 0 R.xs ys))
/-- The state ahead of a round. -/
def Rnd (F rb gl cl : Nat) (ts : List Tok) (R : AllR) (lo : Nat) (v : Value) (wr : World) : Prop :=
  (∃ (i : Nat) (L : List Pt) (xs : List Itm) (g : Nat) (ys : List (Tok × Tok × Nat × Int)), RR rb gl cl ts ⟨i, false, 0⟩ wr ∧ parseAll F ts g i L xs = some R ∧ ys.length ≤ i ∧ wr.ownsRow lo 163 10 v ys.length (iCells ys) ∧ ItemsAt (CondAt L rb wr) xs ys) ∨
  (R.ok = false ∧ RR rb gl cl ts (failQ ts ⟨R.i, false, 0⟩) wr)

set_option maxHeartbeats 4000000 in
theorem parse_any {F g gl cl : Nat} {ts : List Tok} {R : AllR} {w : World} (hW : ∀ t ∈ ts, TokW t) (hN : ∀ t ∈ ts, t.k = 111 → t.text ≠ []) (hn : 0 < ts.length) (hn1 : ts.length ≤ 1001) (hfin : kindOf (tokAt ts (ts.length - 1)) = 0)
    (wl : ∃ cs, w.heap[gl]? = some (.cells cs 160 (0, 0)))
    (wc : ∀ i, i < ts.length → w.cell? ⟨gl, i * 4, none⟩ = some (.int .i64 (kindOf (tokAt ts i))) ∧ w.cell? ⟨gl, i * 4 + 1, none⟩ = some (.int .i64 (tokAt ts i).pl) ∧ w.cell? ⟨gl, i * 4 + 2, none⟩ = some (.int .i64 (nmOf (tokAt ts i))) ∧ w.cell? ⟨gl, i * 4 + 3, none⟩ = some (S (ownOf (tokAt ts i))))
    (hR : parseAll F ts g 0 [] [] = some R) :
    Calls Tryz.prog 56 #[.slice (some ⟨gl, 0, none⟩) ts.length cl] w (ParseAns ts R w) := by
  obtain ⟨i0, hi, hz0, hz1, hz2⟩ := info_parts info_pitem
  have hgl : gl < w.heap.size := lt_of_get wl.choose_spec
  have hb0 : Below w.heap.size w (w.alloc (rdObj gl ts.length cl ⟨0, false, 0⟩)) := (Below.refl _ _).alloc (Nat.le_refl _) _
  have h0 : RR w.heap.size gl cl ts ⟨0, false, 0⟩ (w.alloc (rdObj gl ts.length cl ⟨0, false, 0⟩)) := by
    refine ⟨heap_alloc_new w _, ?_, fun i hi => ?_, hn, hn1, hfin⟩
    · rw [hb0.block _ hgl]; exact wl
    · have e : ∀ j, (w.alloc (rdObj gl ts.length cl ⟨0, false, 0⟩)).cell? ⟨gl, j, none⟩ = w.cell? ⟨gl, j, none⟩ := fun j => World.cell?_of_block (w := w) (hb0.block _ hgl)
      rw [e, e, e, e]; exact wc i hi
  have hrnd : Rnd F w.heap.size gl cl ts R w.heap.size (.slice none 0 0) (w.alloc (rdObj gl ts.length cl ⟨0, false, 0⟩)) :=
    .inl ⟨0, [], [], g, [], h0, hR, by simp, World.ownsRow_nil _ _ _ _, trivial⟩
  have HFM : Hid _ := (forms (rb := w.heap.size) (gl := gl) (cl := cl) hW F).1
  have HW : Hid _ := hW
  have HN : Hid _ := hN
  clear h0 hR wl wc hW hN
  unfold rdObj at hb0 hrnd
  go_enter Tryz.func56, Tryz.ntmps56
  go_wp2_with fail
  generalize w.alloc (.cells #[.slice (some ⟨gl, 0, none⟩) ts.length cl, .int .i64 (0 : Nat), .bool false, .int .i64 (0 : Nat)] 213 (0, 0)) = wz at hb0 hrnd
  generalize hrb : w.heap.size = rb at *
  go_loopw [6] (fun v wr => Rnd F rb gl cl ts R rb v wr ∧ Below rb w wr) (fun _ wr => ts.length - rdI2 rb wr)
  case atStart => exact ⟨hrnd, hb0⟩
  case round =>
    obtain ⟨hrd, hbw⟩ := hrel
    rcases hrd with ⟨i, L, xs, g', ys, hr, hp, hyl, hown, hit⟩ | ⟨rok, hr⟩
    · have ht := HW.out _ (tokAt_mem hr.lt)
      simp only [] at ht
      have HK := kind_any hr
      simp only [] at HK
      by_cases hk : kindOf (tokAt ts i) = 0
      · have hRe := parse_end hp ((kind_end ht).1 hk)
        subst hRe
        rw [hk] at HK
        obtain ⟨⟨r0, r1, r2, r3⟩, rf⟩ := hr.drew.cells
        have hown0 : wr.drew.ownsRow rb 163 10 u6 ys.length (iCells ys) := hown
        have hyl2 : ys.length ≤ 1001 := by have := hr.lt; have := hr.nb; simp only [] at *; omega
        have WC := count_any hown0 hyl2
        have HA : Hid (∀ w', w'.ownsRow rb 163 10 u6 ys.length (iCells (numF 0 0 ys)) → wr.drew.grownBy w' u6.ownBlock → ParseAns ts ⟨true, i, L, xs⟩ w (.returned (.tuple #[u6, .int .i64 0, .bool true])) w') := fun w' ho hg => by
          have hbn : ∀ q, u6.ownBlock = some q → rb ≤ q := fun q hq => by
            rcases hown0.2 with ⟨e, _⟩ | ⟨g, c, cur, e, hb, _⟩
            · rw [e] at hq; simp [Value.ownBlock] at hq
            · rw [e] at hq; simp [Value.ownBlock] at hq; omega
          have hB : Below w.heap.size w w' := ⟨hg.os.trans hbw.drew.os, hg.tape.trans hbw.drew.tape, hg.output.trans hbw.drew.output, Nat.le_trans hbw.drew.size hg.size, fun q hq => by
            rw [hrb] at hq
            rw [hg.block q (by have := hbw.drew.size; omega) (fun e => by have := hbn q e.symm; omega)]
            exact hbw.drew.block q hq⟩
          obtain ⟨n1, n2⟩ := numb_ok 0 0 hit
          refine ⟨hB, .inr ⟨rfl, u6, numF 0 0 ys, rfl, by rw [numF_len]; exact hyl2, ?_, ?_, n1⟩⟩
          · rw [hrb, numF_len]; exact ho
          · rw [hrb]; exact n2.mono fun i b h => (h.keep fun k _ _ _ _ => rfl : CondAt L rb wr.drew i b).grown hown0 hg
        clear hown hit hp ht hr hown0
        go_wp2_with fail
        refine HK.mono ?_
        rintro e w' ⟨rfl, rfl⟩
        clear HK
        go_wp2_with fail
        refine WC.mono ?_
        rintro e w' ⟨rfl, ho, hg⟩
        clear WC
        have HA2 : Hid (ParseAns ts ⟨true, i, L, xs⟩ w (.returned (.tuple #[u6, .int .i64 0, .bool true])) w') := HA.out w' ho hg
        clear HA ho hg
        go_wp2_with fail
        refine bodyPost_ret (v := .tuple #[u6, .int .i64 0, .bool true]) (by simp [results, Tryz.results56, go_sem]) rfl ?_
        exact HA2.out
      · obtain ⟨r, g2, hrI, hcase⟩ := parse_step hp fun e => hk ((kind_end ht).2 e)
        have hmore := hr.more (by simpa using hk)
        have hk2 : ((kindOf (tokAt ts i) : Int) == (0 : Int)) = false := by
          have : ¬ ((kindOf (tokAt ts i) : Int) = 0) := by omega
          simpa using this
        have HIt := pitem_any HFM.out HW.out HN.out hr.drew rfl hrI
        have hown0 : wr.drew.ownsRow rb 163 10 u6 ys.length (iCells ys) := hown
        have hlt := hr.lt
        have hnb := hr.nb
        simp only [] at hlt hmore
        have HR : Hid _ := hr
        have HCs : Hid _ := hcase
        have HT : Hid _ := hit
        have HI : Hid _ := hrI
        clear hp ht hown hr hcase hit hrI
        generalize kindOf (tokAt ts i) = kd at *
        go_wp2_with fail
        refine HK.mono ?_
        rintro e w' ⟨rfl, rfl⟩
        clear HK
        go_wp2_with fail
        refine HIt.mono ?_
        rintro e w1 ⟨t, u, b, rfl, F1, hL⟩
        clear HIt
        have hown1 := ownsRow_pf HR.out.drew hown0 F1
        have hbw1 : Below rb w w1 := ⟨F1.os.trans hbw.drew.os, F1.tape.trans hbw.drew.tape, F1.output.trans hbw.drew.output, Nat.le_trans hbw.drew.size F1.size, fun k hk => (F1.block k (by have := hbw.drew.size; omega) (by omega)).trans (hbw.drew.block k hk)⟩
        have hs1 := hbw1.size
        have HL : Hid _ := hL
        have HF1 : Hid _ := F1
        clear hL F1 hown0
        unfold itV
        go_wp2_with (
          at_builtin
          go_must (refine wpList_append_lies _ (by rfl) _ _ 84 (by rfl) rb 163 i0 (.agg #[.int .i64 0, .int .i64 0, .int .i64 0, .string ⟨#[]⟩, .int .i64 0, .int .i64 0, .int .i64 0, .string ⟨#[]⟩, .int .i64 0, .pointer none]) 10 96 Tryz.underlying84 hi hz0 hz1 hz2 (by rfl) (by decide) _ _ _ (by rfl) (hown1.alloc _) ⟨w1.heap.size, 0, none⟩ 1 1 (icell (t, u, b, 0)) (by rfl) (by rfl) (World.news_of_block (heap_alloc_new w1 _)) (fun x hx => by simp [icell] at hx; rcases hx with rfl | rfl | rfl | rfl | rfl | rfl | rfl | rfl | rfl | rfl <;> rfl) (by decide) (by unfold maxLen; omega) (by omega) (by simp; omega) _ rfl ?_)
          intro g3 cap w3 hown3 hgrow3 hat hlt3)
        have hbw3 : Below rb w w3 := by subst hrb; exact below_far1 hbw1 hown1 hgrow3
        rcases HL.out with ⟨ok, h1, hc, hio⟩ | ⟨ok, h1⟩
        · have ha := h1.apart hown1
          have h3 := (h1.alloc _).grown hgrow3 ha.1 ha.2
          obtain ⟨hfw, hnew⟩ := item_fwd HI.out ok
          refine ⟨⟨.inl ⟨r.i, r.L, xs ++ [r.it], g2, ys ++ [(t, u, b, 0)], h3, ?_, by simp; omega, ?_, ?_⟩, hbw3⟩, ?_⟩
          · rcases HCs.out with ⟨_, hp⟩ | ⟨no, _⟩
            · exact hp
            · rw [ok] at no; simp at no
          · rw [iCells_snoc]; simpa using hown3
          · refine ItemsAt.snoc (((hc.grow ((Below.refl _ _).alloc (Nat.le_refl _) _)).grown (hown1.alloc _) hgrow3)) hio (HT.out.mono fun i b h => ?_)
            exact (more_at ((h.pf HR.out (PF.refl rb wr).drew).pf HR.out.drew HF1.out) hnew).grow ((Below.refl _ _).alloc (Nat.le_refl _) _) |>.grown (hown1.alloc _) hgrow3
          · rw [rdI2_eq h3, rdI2_eq HR.out]; have := h3.lt; simp only [] at *; omega
        · have ha := h1.apart hown1
          have h3 := (h1.alloc _).grown hgrow3 ha.1 ha.2
          refine ⟨⟨.inr ?_, hbw3⟩, ?_⟩
          · rcases HCs.out with ⟨yes, _⟩ | ⟨_, rfl⟩
            · rw [ok] at yes; simp at yes
            · exact ⟨rfl, h3⟩
          · rw [rdI2_eq h3, rdI2_eq HR.out]; simp only [failQ]; omega
    · have HK := kind_any hr
      have hk : kindOf (tokAt ts (failQ ts ⟨R.i, false, 0⟩).i) = 0 := by rw [show (failQ ts ⟨R.i, false, 0⟩).i = ts.length - 1 from rfl]; exact hr.fin
      rw [hk] at HK
      obtain ⟨⟨r0, r1, r2, r3⟩, rf⟩ := hr.drew.cells
      have HA : Hid (ParseAns ts R w (.returned (.tuple #[.slice none 0 0, .int .i64 (tokAt ts R.i).pl, .bool false])) wr.drew.drew) :=
        ⟨by rw [hrb]; exact hbw.drew.drew, .inl ⟨rok, rfl⟩⟩
      simp only [failQ] at r0 r1 r2 r3
      rw [if_neg (by simp)] at r3
      clear hr hk
      generalize (tokAt ts R.i).pl = pp at *
      go_wp2_with fail
      refine HK.mono ?_
      rintro e w' ⟨rfl, rfl⟩
      clear HK
      go_wp2_with fail
      go_region_held (fun w' => w'.cell? ⟨rb, 3, none⟩ = some (.int .i64 pp)) (go_keep) (fail)
      go_wp2_with fail
      refine bodyPost_ret (v := .tuple #[.slice none 0 0, .int .i64 pp, .bool false]) (by simp [results, Tryz.results56, go_sem]) rfl ?_
      exact HA.out
end Go.Proofs.YtfkdailfcmnjlaaGreatDoor

namespace Go.Proofs.YtfkdailfcmnjlaaGreatDoor
open Go Go.RowKit
set_option maxRecDepth 100000
attribute [local go_sem ↓] Go.wp_at_zero Go.wp_at_succ
variable {bs : Nat}

/-- The part of a list lies at a block as the program's tree; what is said of each note. -/
structure CondS (bs : Nat) (L : List Pt) (N : Tok → Int → Prop) (w : World) (i b : Nat) : Prop where
  lay ::
  out : ∀ C : Nat → Nat → Prop, (∀ (i b : Nat) (u : Value) (n : Int) (bl : Nat → Nat), i < L.length → bs ≤ b → N (L.getD i noPt).tok n → w.heap[b]? = some (cdObj (L.getD i noPt).tok u n) → UnderAt w u (L.getD i noPt).subs.length bl →
    (∀ j, j < (L.getD i noPt).subs.length → C ((L.getD i noPt).subs.getD j 0) (bl j)) → C i b) → C i b
theorem CondS.mk {L : List Pt} {N : Tok → Int → Prop} {w : World} (i b : Nat) (u : Value) (n : Int) (bl : Nat → Nat) (hi : i < L.length) (hlo : bs ≤ b) (hn : N (L.getD i noPt).tok n) (hb : w.heap[b]? = some (cdObj (L.getD i noPt).tok u n))
    (hu : UnderAt w u (L.getD i noPt).subs.length bl) (hs : ∀ j, j < (L.getD i noPt).subs.length → CondS bs L N w ((L.getD i noPt).subs.getD j 0) (bl j)) : CondS bs L N w i b :=
  ⟨fun C hC => hC i b u n bl hi hlo hn hb hu fun j hj => (hs j hj).out C hC⟩
theorem CondS.ind {L : List Pt} {N : Tok → Int → Prop} {w : World} (M : Nat → Nat → Prop)
    (hM : ∀ (i b : Nat) (u : Value) (n : Int) (bl : Nat → Nat), i < L.length → bs ≤ b → N (L.getD i noPt).tok n → w.heap[b]? = some (cdObj (L.getD i noPt).tok u n) → UnderAt w u (L.getD i noPt).subs.length bl →
      (∀ j, j < (L.getD i noPt).subs.length → CondS bs L N w ((L.getD i noPt).subs.getD j 0) (bl j)) → (∀ j, j < (L.getD i noPt).subs.length → M ((L.getD i noPt).subs.getD j 0) (bl j)) → M i b)
    {i b : Nat} (h : CondS bs L N w i b) : M i b :=
  (h.out (fun i b => CondS bs L N w i b ∧ M i b) fun i b u n bl hi hlo hn hb hu hs => ⟨.mk i b u n bl hi hlo hn hb hu fun j hj => (hs j hj).1, hM i b u n bl hi hlo hn hb hu (fun j hj => (hs j hj).1) fun j hj => (hs j hj).2⟩).2
theorem CondS.inv {L : List Pt} {N : Tok → Int → Prop} {w : World} {i b : Nat} (h : CondS bs L N w i b) : ∃ (u : Value) (n : Int) (bl : Nat → Nat), i < L.length ∧ bs ≤ b ∧ N (L.getD i noPt).tok n ∧ w.heap[b]? = some (cdObj (L.getD i noPt).tok u n) ∧ UnderAt w u (L.getD i noPt).subs.length bl ∧ ∀ j, j < (L.getD i noPt).subs.length → CondS bs L N w ((L.getD i noPt).subs.getD j 0) (bl j) :=
  h.ind (fun i b => ∃ (u : Value) (n : Int) (bl : Nat → Nat), i < L.length ∧ bs ≤ b ∧ N (L.getD i noPt).tok n ∧ w.heap[b]? = some (cdObj (L.getD i noPt).tok u n) ∧ UnderAt w u (L.getD i noPt).subs.length bl ∧ ∀ j, j < (L.getD i noPt).subs.length → CondS bs L N w ((L.getD i noPt).subs.getD j 0) (bl j)) fun _ _ u n bl hi hlo hn hb hu hs _ => ⟨u, n, bl, hi, hlo, hn, hb, hu, hs⟩
theorem CondAt.toS {L : List Pt} {w : World} {i b : Nat} (h : CondAt L bs w i b) {N : Tok → Int → Prop} (hN : ∀ k, k < L.length → N (L.getD k noPt).tok 0) : CondS bs L N w i b :=
  h.ind (fun i b => CondS bs L N w i b) fun i b u bl hi hlo hb hu _ _ ih => .mk i b u 0 bl hi hlo (hN i hi) hb hu ih
theorem CondS.keep {L : List Pt} {N : Tok → Int → Prop} {w w' : World} {i b : Nat} (h : CondS bs L N w i b)
    (hk : ∀ (k : Nat) (cs : Array Value) (ty : TypeId), w.heap[k]? = some (Obj.cells cs ty (0, 0)) → ty = 229 ∨ ty = 161 → w'.heap[k]? = w.heap[k]?) : CondS bs L N w' i b := by
  refine h.ind (fun i b => CondS bs L N w' i b) ?_
  · intro i b u n bl hi hlo hn hb hu hs ih
    refine .mk i b u n bl hi hlo hn ?_ ?_ ih
    · rw [hk b _ _ hb (.inl rfl)]; exact hb
    · rcases hu with hu | ⟨h0, g, h1, h2⟩
      · exact .inl hu
      · exact .inr ⟨h0, g, h1, by rw [hk g _ _ h2 (.inr rfl)]; exact h2⟩
theorem CondS.grow {L : List Pt} {N : Tok → Int → Prop} {w w' : World} {i b : Nat} (h : CondS bs L N w i b) (hb : Below w.heap.size w w') : CondS bs L N w' i b :=
  h.keep fun k _ _ hk _ => hb.block k (lt_of_get hk)

theorem cd_cells {w : World} {b : Nat} {t : Tok} {u : Value} {n : Int} (h : w.heap[b]? = some (cdObj t u n)) : (w.cell? ⟨b, 0, none⟩ = some (.int .i64 (kindOf t)) ∧ w.cell? ⟨b, 1, none⟩ = some (.int .i64 t.pl) ∧ w.cell? ⟨b, 2, none⟩ = some (.int .i64 (nmOf t)) ∧ w.cell? ⟨b, 3, none⟩ = some (S (ownOf t)) ∧ w.cell? ⟨b, 4, none⟩ = some u ∧ w.cell? ⟨b, 5, none⟩ = some (.int .i64 n)) ∧ ∀ j, w.frozen? ⟨b, j, none⟩ = false := by
  have hc := fun j => cell_of_row w b j _ _ _ h
  exact ⟨⟨hc 0, hc 1, hc 2, hc 3, hc 4, hc 5⟩, fun j => by simp [World.frozen?, h, cdObj]⟩
theorem under_cell {w : World} {g n : Nat} {bl : Nat → Nat} (h : w.heap[g]? = some (.cells ((List.range n).map fun j => Value.pointer (some ⟨bl j, 0, none⟩)).toArray 161 (0, 0))) (j : Nat) (hj : j < n) : w.cell? ⟨g, j, none⟩ = some (.pointer (some ⟨bl j, 0, none⟩)) := by
  rw [cell_of_row w g j _ _ _ h]
  simp [hj]
/-- The list under a part, as a slice. -/
theorem UnderAt.slice {w : World} {u : Value} {n : Nat} {bl : Nat → Nat} (h : UnderAt w u n bl) : ∃ a, u = .slice a n n ∧ ∀ j, j < n → ∃ g, a = some ⟨g, 0, none⟩ ∧ w.heap[g]? = some (.cells ((List.range n).map fun j => Value.pointer (some ⟨bl j, 0, none⟩)).toArray 161 (0, 0)) := by
  rcases h with ⟨rfl, rfl⟩ | ⟨h0, g, rfl, hg⟩
  · exact ⟨none, rfl, fun j hj => by omega⟩
  · exact ⟨_, rfl, fun j _ => ⟨g, rfl, hg⟩⟩
theorem sumOf_take (F : Nat → Nat) (l : List Nat) (k : Nat) (hk : k < l.length) : sumOf F (l.take (k + 1)) = sumOf F (l.take k) + F (l.getD k 0) := by
  induction l generalizing k with
  | nil => simp at hk
  | cons x l ih =>
    cases k with
    | zero => simp [sumOf]
    | succ k => simp only [List.take_succ_cons, sumOf, List.getD_cons_succ]; rw [ih k (by simpa using hk)]; omega
theorem sumOf_le (F : Nat → Nat) (l : List Nat) (k : Nat) : sumOf F (l.take k) ≤ sumOf F l := by
  induction l generalizing k with
  | nil => simp [sumOf]
  | cons x l ih =>
    cases k with
    | zero => simp [sumOf]
    | succ k => simp only [List.take_succ_cons, sumOf]; have := ih k; omega

set_option maxHeartbeats 4000000 in
theorem parts_any {L : List Pt} {N : Tok → Int → Prop} (hL : L.length ≤ 5000) (f : Nat) : ∀ {lo i b : Nat} {w : World}, TreeF f L lo i → CondS bs L N w i b →
    Calls Tryz.prog 106 #[.pointer (some ⟨b, 0, none⟩)] w fun e w' => e = .returned (.int .i64 (cnt f L i)) ∧ Below w.heap.size w w' := by
  induction f with
  | zero => intro lo i b w h; exact h.elim
  | succ f ih =>
    intro lo i b w hT hC
    have hcnt := hT.cnt
    have hle := hT.le
    have hlt := hT.lt
    obtain ⟨u, n, bl, hi, hlo, hn, hb, hu, hs⟩ := hC.inv
    obtain ⟨⟨c0, c1, c2, c3, c4, c5⟩, cf⟩ := cd_cells hb
    rw [cnt] at hcnt
    obtain ⟨a, rfl, ha⟩ := hu.slice
    have hn3 : (L.getD i noPt).subs.length ≤ 3 := by
      rcases hT.2.1 with ⟨_, h1⟩ | ⟨_, h1⟩ | ⟨_, h1⟩ | ⟨m, _, _, h1⟩
      · rw [h1]; simp
      all_goals omega
    have hsub := forest_mem _ hT.2.2
    have HS : Hid _ := hs
    have HT : Hid _ := hsub
    have HA : Hid _ := ha
    clear hs hb hu hT hsub ha hn
    generalize hjs : (L.getD i noPt).subs = js at *
    have HJS : Hid _ := hjs
    clear hjs
    go_enter Tryz.func106, Tryz.ntmps106
    go_wp2_with fail
    go_loopw [3, 11] (fun nv kv wr => ∃ k, k ≤ js.length ∧ kv = .int .i64 k ∧ nv = .int .i64 (1 + sumOf (cnt f L) (js.take k) : Nat) ∧ Below w.heap.size w wr) (fun _ kv _ => js.length - (intOf kv).toNat)
    case atStart => exact ⟨0, Nat.zero_le _, rfl, rfl, Below.refl _ _⟩
    case round =>
      obtain ⟨k, hk, rfl, rfl, hbw⟩ := hrel
      have hsl := sumOf_le (cnt f L) js k
      by_cases hlt : k < js.length
      · obtain ⟨g, rfl, hg⟩ := HA.out k hlt
        have hg' : wr.heap[g]? = _ := (hbw.block g (lt_of_get hg)).trans hg
        have hcell := under_cell hg' k hlt
        have htk := sumOf_take (cnt f L) js k hlt
        have hsl2 := sumOf_le (cnt f L) js (k + 1)
        obtain ⟨lo', hT'⟩ := HT.out (js.getD k 0) (by rw [List.getD_eq_getElem?_getD, List.getElem?_eq_getElem hlt]; exact List.getElem_mem hlt)
        have HI := ih hT' ((HS.out k hlt).grow hbw)
        clear hg hg' hT'
        rw [htk] at hsl2
        have HTK : Hid _ := htk
        clear htk
        generalize sumOf (cnt f L) (js.take k) = A at *
        generalize cnt f L (js.getD k 0) = X at *
        go_wp2_with fail
        refine HI.mono ?_
        rintro e w1 ⟨rfl, hb1⟩
        clear HI
        go_wp2_with fail
        go_roundw
        case rel =>
          refine ⟨k + 1, by omega, by simp, ?_, hbw.trans (hb1.mono hbw.size)⟩
          rw [HTK.out]
          simp
          omega
        case measure => simp [intOf]; omega
      · have hke : k = js.length := by omega
        subst hke
        rw [List.take_length] at *
        go_wp2_with fail
        go_ret
        exact ⟨by rw [cnt, HJS.out]; rfl, hbw⟩
end Go.Proofs.YtfkdailfcmnjlaaGreatDoor

namespace Go.Proofs.YtfkdailfcmnjlaaGreatDoor
open Go Go.RowKit
set_option maxRecDepth 100000
attribute [local go_sem ↓] Go.wp_at_zero Go.wp_at_succ
variable {bs : Nat}

set_option maxHeartbeats 4000000 in
theorem pdepth_any {L : List Pt} {N : Tok → Int → Prop} (f : Nat) (hf : f ≤ 5001) : ∀ {lo i b : Nat} {w : World}, TreeF f L lo i → CondS bs L N w i b →
    Calls Tryz.prog 108 #[.pointer (some ⟨b, 0, none⟩)] w fun e w' => e = .returned (.int .i64 (dep f L i)) ∧ Below w.heap.size w w' := by
  induction f with
  | zero => intro lo i b w h; exact h.elim
  | succ f ih =>
    intro lo i b w hT hC
    have ih := @ih (by omega)
    have hdb := dep_bound (f + 1) L i
    have hle := hT.le
    have hlt := hT.lt
    obtain ⟨u, n, bl, hi, hlo, hn, hb, hu, hs⟩ := hC.inv
    obtain ⟨⟨c0, c1, c2, c3, c4, c5⟩, cf⟩ := cd_cells hb
    obtain ⟨a, rfl, ha⟩ := hu.slice
    have hn3 : (L.getD i noPt).subs.length ≤ 3 := by
      rcases hT.2.1 with ⟨_, h1⟩ | ⟨_, h1⟩ | ⟨_, h1⟩ | ⟨m, _, _, h1⟩
      · rw [h1]; simp
      all_goals omega
    have hsub := forest_mem _ hT.2.2
    have HS : Hid _ := hs
    have HT : Hid _ := hsub
    have HA : Hid _ := ha
    clear hs hb hu hT hsub ha hn
    generalize hjs : (L.getD i noPt).subs = js at *
    have HJS : Hid _ := hjs
    clear hjs
    go_enter Tryz.func108, Tryz.ntmps108
    go_wp2_with fail
    go_loopw [3, 11] (fun nv kv wr => ∃ k, k ≤ js.length ∧ kv = .int .i64 k ∧ nv = .int .i64 (foldMax (dep f L) (js.take k) : Nat) ∧ Below w.heap.size w wr) (fun _ kv _ => js.length - (intOf kv).toNat)
    case atStart => exact ⟨0, Nat.zero_le _, rfl, by simp [foldMax], Below.refl _ _⟩
    case round =>
      obtain ⟨k, hk, rfl, rfl, hbw⟩ := hrel
      have hsl := foldMax_le (dep f L) (f + 1) (dep_bound f L) (js.take k)
      by_cases hlt : k < js.length
      · obtain ⟨g, rfl, hg⟩ := HA.out k hlt
        have hg' : wr.heap[g]? = _ := (hbw.block g (lt_of_get hg)).trans hg
        have hcell := under_cell hg' k hlt
        have htk := foldMax_take (dep f L) js k hlt
        obtain ⟨lo', hT'⟩ := HT.out (js.getD k 0) (by rw [List.getD_eq_getElem?_getD, List.getElem?_eq_getElem hlt]; exact List.getElem_mem hlt)
        have HI := ih hT' ((HS.out k hlt).grow hbw)
        have hxb := dep_bound f L (js.getD k 0)
        rw [show js[k] = js.getD k 0 from by rw [List.getD_eq_getElem?_getD, List.getElem?_eq_getElem hlt]; rfl] at htk
        have HTK : Hid _ := htk
        clear hg hg' hT' htk
        generalize foldMax (dep f L) (js.take k) = A at *
        generalize dep f L (js.getD k 0) = X at *
        go_wp2_with fail
        refine HI.mono ?_
        rintro e w1 ⟨rfl, hb1⟩
        clear HI
        go_wp2_with fail
        go_roundw
        case rel =>
          refine ⟨k + 1, by omega, by simp, ?_, hbw.trans (hb1.mono hbw.size)⟩
          rw [HTK.out]
          simp
          omega
        case measure => simp [intOf]; omega
      · have hke : k = js.length := by omega
        subst hke
        rw [List.take_length] at *
        go_wp2_with fail
        go_ret
        refine ⟨?_, hbw⟩
        rw [dep, HJS.out]
        exact congrArg (fun n : Int => Ending.returned (Value.int .i64 n)) (show (1 : Int) + (foldMax (dep f L) js : Nat) = ((foldMax (dep f L) js + 1 : Nat) : Int) by omega)
end Go.Proofs.YtfkdailfcmnjlaaGreatDoor

namespace Go.Proofs.YtfkdailfcmnjlaaGreatDoor
open Go Go.RowKit
set_option maxRecDepth 100000
attribute [local go_sem ↓] Go.wp_at_zero Go.wp_at_succ
variable {bs : Nat}

/-- A place, if there is a fault. -/
def plcV : Option Nat → Value
  | some p => .tuple #[.int .i64 p, .bool false]
  | none => .tuple #[.int .i64 0, .bool true]
theorem pmany_step {L : List Pt} {x : Itm} {r : List Itm} {lets i lt : Nat} (hl : lt = lets + (if x.name == [] then 0 else 1)) : manyAt L (x :: r) lets i = if 10 < lt ∨ 20 < i + 1 - lt ∨ 200 < x.parts ∨ 20 < dep (x.top + 1) L x.top then some x.pl else manyAt L r lt (i + 1) := by
  rw [manyAt, ← hl]
theorem drop_head {α : Type} {l : List α} {k : Nat} (h : k < l.length) (d : α) : l.drop k = l.getD k d :: l.drop (k + 1) := by
  rw [List.drop_eq_getElem_cons h, List.getD_eq_getElem?_getD, List.getElem?_eq_getElem h]; rfl

set_option maxHeartbeats 2000000 in
theorem beyond_any (t u : Tok) (n : Int) (b : Nat) (w : World) :
    Calls Tryz.prog 107 #[itW t u n b] w fun e w' => e = .returned (.bool (if kindOf t = 11 then decide (10 ≤ n) else decide (20 < n))) ∧ Below w.heap.size w w' := by
  unfold itW
  have HB : Hid (Below w.heap.size w (w.alloc (.cells #[.int .i64 (kindOf t), .int .i64 t.pl, .int .i64 (nmOf t), S (ownOf t), .int .i64 (kindOf u), .int .i64 u.pl, .int .i64 (nmOf u), S (ownOf u), .int .i64 n, .pointer (some ⟨b, 0, none⟩)] 163 (0, 0)))) := (Below.refl w.heap.size w).alloc (Nat.le_refl _) _
  by_cases hk : kindOf t = 11
  · have HR : Hid ((if kindOf t = 11 then decide (10 ≤ n) else decide (20 < n)) = decide (10 ≤ n)) := by show _ = _; rw [if_pos hk]
    generalize (if kindOf t = 11 then decide (10 ≤ n) else decide (20 < n)) = r at *
    rw [hk] at HB ⊢
    clear hk
    generalize t.pl = q1 at *
    generalize nmOf t = q2 at *
    generalize ownOf t = q3 at *
    generalize kindOf u = q4 at *
    generalize u.pl = q5 at *
    generalize nmOf u = q6 at *
    generalize ownOf u = q7 at *
    go_enter Tryz.func107, Tryz.ntmps107
    go_wp2_with fail
    go_ret
    exact ⟨by rw [HR.out]; rfl, HB.out⟩
  · have HR : Hid ((if kindOf t = 11 then decide (10 ≤ n) else decide (20 < n)) = decide (20 < n)) := by show _ = _; rw [if_neg hk]
    generalize (if kindOf t = 11 then decide (10 ≤ n) else decide (20 < n)) = r at *
    have hk2 : ((kindOf t : Int) == (11 : Int)) = false := by
      have : ¬ ((kindOf t : Int) = 11) := by omega
      simpa using this
    clear hk
    generalize kindOf t = q0 at *
    generalize t.pl = q1 at *
    generalize nmOf t = q2 at *
    generalize ownOf t = q3 at *
    generalize kindOf u = q4 at *
    generalize u.pl = q5 at *
    generalize nmOf u = q6 at *
    generalize ownOf u = q7 at *
    go_enter Tryz.func107, Tryz.ntmps107
    go_wp2_with fail
    go_ret
    exact ⟨by rw [HR.out]; rfl, HB.out⟩

set_option maxHeartbeats 8000000 in
theorem fit_any {L : List Pt} {N : Tok → Int → Prop} (hL : L.length ≤ 5000) {xs : List Itm} {ys : List (Tok × Tok × Nat × Int)} {base : Nat} {v : Value} {w : World} (hrow : w.ownsRow base 163 10 v ys.length (iCells ys)) (hy : ys.length ≤ 1001)
    (hit : ItemsAt (CondS bs L N w) xs ys) (htr : TreesAt L xs 0) (hnu : Numb 0 0 xs ys) :
    Calls Tryz.prog 57 #[v] w fun e w' => e = .returned (plcV (manyAt L xs 0 0)) ∧ Below w.heap.size w w' := by
  obtain ⟨a, cap, rfl, hcell⟩ := row_cells hrow
  have hlen : Hid _ := hit.len
  have HC : Hid _ := hcell
  have HT : Hid _ := hit
  have HTR : Hid _ := htr
  have HNU : Hid _ := hnu
  clear hrow hcell hit htr hnu
  go_enter Tryz.func57, Tryz.ntmps57
  go_wp2_with fail
  go_loopw [4, 9] (fun pv kv wr => ∃ k lets fr, k ≤ ys.length ∧ kv = .int .i64 k ∧ pv = .int .i64 (fr : Nat) ∧ lets ≤ k ∧ fr ≤ L.length ∧ Hid (manyAt L xs 0 0 = manyAt L (xs.drop k) lets k) ∧ Hid (TreesAt L (xs.drop k) fr) ∧ Hid (ItemsAt (CondS bs L N w) (xs.drop k) (ys.drop k)) ∧ Hid (lets ≤ 10 ∧ k - lets ≤ 20) ∧ Hid (Numb lets (k - lets) (xs.drop k) (ys.drop k)) ∧ Below w.heap.size w wr) (fun _ kv _ => ys.length - (intOf kv).toNat)
  case atStart => exact ⟨0, 0, 0, Nat.zero_le _, rfl, rfl, Nat.le_refl _, Nat.zero_le _, rfl, HTR.out, HT.out, ⟨by omega, by omega⟩, HNU.out, Below.refl _ _⟩
  case round =>
    obtain ⟨k, lets, fr, hk, rfl, rfl, hlk, hfr, HM, HTR2, HIT2, HLR, HNU2, hbw⟩ := hrel
    by_cases hlt : k < ys.length
    · have ht2 := HTR2.out
      have hi2 := HIT2.out
      have hn2 := HNU2.out
      rw [drop_head (show k < xs.length by rw [← hlen.out]; exact hlt) noItm] at ht2 hi2 hn2
      rw [drop_head (show k < xs.length by rw [← hlen.out]; exact hlt) noItm] at HM
      rw [drop_head hlt (zTok, zTok, 0, 0)] at hi2 hn2
      obtain ⟨g, rfl, hgc, hcells⟩ := HC.out k hlt
      have hgl := lt_of_get hgc.choose_spec
      generalize xs.getD k noItm = x at *
      generalize ys.getD k (zTok, zTok, 0, 0) = y at *
      obtain ⟨⟨hCd, hO⟩, hi2⟩ := hi2
      obtain ⟨hTr, hpt, ht2⟩ := ht2
      obtain ⟨t0, u0, b, wh⟩ := y
      simp only [] at hCd hO
      unfold Numb at hn2
      simp only [] at hn2
      have hct : ∀ j, j < 10 → wr.cell? ⟨g, k * 10 + j, none⟩ = (icell (t0, u0, b, wh))[j]? := fun j hj => by
        rw [hbw.cell (p := ⟨g, k * 10 + j, none⟩) hgl]; exact hcells j hj
      have c0 := hct 0 (by omega)
      have c1 := hct 1 (by omega)
      have c2 := hct 2 (by omega)
      have c3 := hct 3 (by omega)
      have c4 := hct 4 (by omega)
      have c5 := hct 5 (by omega)
      have c6 := hct 6 (by omega)
      have c7 := hct 7 (by omega)
      have c8 := hct 8 (by omega)
      have c9 := hct 9 (by omega)
      simp [icell] at c0 c1 c2 c3 c4 c5 c6 c7 c8 c9
      have hTF := hTr.fit
      have hcn := hTF.cnt
      have hle := hTF.le
      have hxl := hTF.lt
      have W1 := parts_any (N := N) hL (x.top + 1) hTF (hCd.grow (hbw.alloc hbw.size (.cells #[.int .i64 (kindOf t0), .int .i64 t0.pl, .int .i64 (nmOf t0), S (ownOf t0), .int .i64 (kindOf u0), .int .i64 u0.pl, .int .i64 (nmOf u0), S (ownOf u0), .int .i64 wh, .pointer (some ⟨b, 0, none⟩)] 163 (0, 0))))
      rw [hcn] at W1
      have WB := fun W => beyond_any t0 u0 wh b W
      unfold itW at WB
      -- which number, and what it says
      obtain ⟨lt, hlt1, hbey, hnx⟩ : ∃ lt, (lt = lets + (if x.name == [] then 0 else 1)) ∧ ((if kindOf t0 = 11 then decide (10 ≤ wh) else decide (20 < wh)) = decide (10 < lt ∨ 20 < k + 1 - lt)) ∧ Numb lt (k + 1 - lt) (xs.drop (k + 1)) (ys.drop (k + 1)) := by
        have hLR := HLR.out
        have hkl := itOf_let hO
        rcases hn2 with ⟨hn, hw, hnx⟩ | ⟨hn, hw, hnx⟩
        · have hk11 : kindOf t0 = 11 := by rcases hkl with h | h; exact h.2; exact absurd h.1 hn
          refine ⟨lets + 1, by rw [if_neg (by simpa using hn)], ?_, by rw [show k + 1 - (lets + 1) = k - lets by omega]; exact hnx⟩
          rw [if_pos hk11, hw]
          exact decide_eq_decide.2 (by omega)
        · have hk11 : kindOf t0 ≠ 11 := by rcases hkl with h | h; exact absurd hn h.1; exact h.2
          refine ⟨lets, by simp [hn], ?_, by rw [show k + 1 - lets = k - lets + 1 by omega]; exact hnx⟩
          rw [if_neg hk11, hw]
          exact decide_eq_decide.2 (by omega)
      have hltk : lt ≤ k + 1 := by rw [hlt1]; split <;> omega
      rw [hbey] at WB
      have HST : Hid _ := pmany_step (L := L) (x := x) (r := xs.drop (k + 1)) (lets := lets) (i := k) (lt := lt) hlt1
      have HNX : Hid _ := hnx
      have HTF : Hid _ := hTF
      have HCd : Hid _ := hCd
      have HTR3 : Hid _ := ht2
      have HIT3 : Hid _ := hi2
      have hp1 : t0.pl = x.pl := by unfold ItOf at hO; rcases hO with hO | hO <;> exact hO.2.2.1
      have hp0' : Hid _ := hp1
      clear hp1 hTr hTF hCd ht2 hi2 hct hcells hn2 hlt1 hbey hnx hO HNU2 HLR
      generalize kindOf t0 = kd at *
      generalize t0.pl = p0 at *
      generalize nmOf t0 = m2 at *
      generalize ownOf t0 = s3 at *
      generalize kindOf u0 = m4 at *
      generalize u0.pl = m5 at *
      generalize nmOf u0 = m6 at *
      generalize ownOf u0 = s7 at *
      go_wp2_with fail
      refine W1.mono ?_
      rintro e w1 ⟨rfl, hb1⟩
      clear W1
      have hi1 : w1.heap[wr.heap.size]? = some (.cells #[.int .i64 kd, .int .i64 p0, .int .i64 m2, S s3, .int .i64 m4, .int .i64 m5, .int .i64 m6, S s7, .int .i64 wh, .pointer (some ⟨b, 0, none⟩)] 163 (0, 0)) := (hb1.block _ (by simp)).trans (heap_alloc_new wr _)
      have hbw1 : Below w.heap.size w w1 := (hbw.alloc hbw.size _).trans (hb1.mono (by have := hbw.size; simp; omega))
      obtain ⟨⟨z0, z1, z2, z3, z4, z5, z6, z7, z8, z9⟩, zf⟩ := it_cells hi1
      have HI1 : Hid _ := hi1
      have HB1 : Hid _ := hbw1
      clear hi1 hb1 c0 c1 c2 c3 c4 c5 c6 c7 c8 c9 hbw1
      generalize hdd : dep (x.top + 1) L x.top = dd at *
      generalize wr.heap.size = bi at *
      by_cases hA : 10 < lt ∨ 20 < k + 1 - lt
      · rw [decide_eq_true hA] at WB
        go_wp2_with fail
        refine (WB _).mono ?_
        rintro e w2 ⟨rfl, hb2⟩
        have hz := (it_cells (w := w2) (b := bi) (x0 := .int .i64 kd) (x1 := .int .i64 p0) (x2 := .int .i64 m2) (x3 := S s3) (x4 := .int .i64 m4) (x5 := .int .i64 m5) (x6 := .int .i64 m6) (x7 := S s7) (x8 := .int .i64 wh) (x9 := .pointer (some ⟨b, 0, none⟩)) (by rw [hb2.block _ (lt_of_get HI1.out)]; exact HI1.out))
        clear WB z0 z1 z2 z3 z4 z5 z6 z7 z8 z9 zf
        obtain ⟨⟨z0, z1, z2, z3, z4, z5, z6, z7, z8, z9⟩, zf⟩ := hz
        have HB2 : Hid _ := HB1.out.trans (hb2.mono HB1.out.size)
        clear hb2 HI1 HB1
        go_wp2_with fail
        refine bodyPost_ret (v := .tuple #[.int .i64 p0, .bool false]) (by simp [results, Tryz.results57, go_sem]) rfl ⟨?_, HB2.out⟩
        rw [HM.out, HST.out, if_pos (by omega), hp0'.out]; rfl
      · rw [decide_eq_false hA] at WB
        go_wp2_with fail
        refine (WB _).mono ?_
        rintro e w2 ⟨rfl, hb2⟩
        have hi2 : w2.heap[bi]? = some (.cells #[.int .i64 kd, .int .i64 p0, .int .i64 m2, S s3, .int .i64 m4, .int .i64 m5, .int .i64 m6, S s7, .int .i64 wh, .pointer (some ⟨b, 0, none⟩)] 163 (0, 0)) := by rw [hb2.block _ (lt_of_get HI1.out)]; exact HI1.out
        clear WB z0 z1 z2 z3 z4 z5 z6 z7 z8 z9 zf
        obtain ⟨⟨z0, z1, z2, z3, z4, z5, z6, z7, z8, z9⟩, zf⟩ := it_cells hi2
        have hbw2 := HB1.out.trans (hb2.mono HB1.out.size)
        have W2 := pdepth_any (N := N) (x.top + 1) (by omega) HTF.out (HCd.out.grow hbw2)
        rw [hdd] at W2
        have HB2 : Hid _ := hbw2
        have HI2 : Hid _ := hi2
        clear hb2 HI1 HB1 hbw2 hi2
        by_cases hC : 200 < x.parts
        · clear W2
          go_wp2_with fail
          refine bodyPost_ret (v := .tuple #[.int .i64 p0, .bool false]) (by simp [results, Tryz.results57, go_sem]) rfl ⟨?_, HB2.out⟩
          rw [HM.out, HST.out, if_pos (by omega), hp0'.out]; rfl
        · go_wp2_with fail
          refine W2.mono ?_
          rintro e w3 ⟨rfl, hb3⟩
          clear W2
          have hz := (it_cells (w := w3) (b := bi) (x0 := .int .i64 kd) (x1 := .int .i64 p0) (x2 := .int .i64 m2) (x3 := S s3) (x4 := .int .i64 m4) (x5 := .int .i64 m5) (x6 := .int .i64 m6) (x7 := S s7) (x8 := .int .i64 wh) (x9 := .pointer (some ⟨b, 0, none⟩)) (by rw [hb3.block _ (lt_of_get HI2.out)]; exact HI2.out))
          clear z0 z1 z2 z3 z4 z5 z6 z7 z8 z9 zf
          obtain ⟨⟨z0, z1, z2, z3, z4, z5, z6, z7, z8, z9⟩, zf⟩ := hz
          have HB3 : Hid _ := HB2.out.trans (hb3.mono HB2.out.size)
          clear hb3 HI2 HB2
          by_cases hD : 20 < dd
          · go_wp2_with fail
            refine bodyPost_ret (v := .tuple #[.int .i64 p0, .bool false]) (by simp [results, Tryz.results57, go_sem]) rfl ⟨?_, HB3.out⟩
            rw [HM.out, HST.out, if_pos (by omega), hp0'.out]; rfl
          · go_wp2_with fail
            go_roundw
            case rel =>
              refine ⟨k + 1, lt, x.parts, by omega, by simp, by simp; omega, by omega, by omega, ?_, HTR3.out, HIT3.out, ⟨by omega, by omega⟩, HNX.out, HB3.out⟩
              show _ = _
              rw [HM.out, HST.out, if_neg (by omega)]
            case measure => simp [intOf]; omega
    · have hke : k = ys.length := by omega
      subst hke
      have hm : manyAt L xs 0 0 = none := by
        have := HM.out
        rw [List.drop_of_length_le (by rw [hlen.out]; exact Nat.le_refl _)] at this
        exact this
      have HM2 : Hid _ := hm
      clear hm
      go_wp2_with fail
      refine bodyPost_ret (v := .tuple #[.int .i64 0, .bool true]) (by simp [results, Tryz.results57, go_sem]) rfl ⟨?_, hbw⟩
      rw [HM2.out]; rfl
end Go.Proofs.YtfkdailfcmnjlaaGreatDoor

namespace Go.Proofs.YtfkdailfcmnjlaaGreatDoor
open Go Go.RowKit
set_option maxRecDepth 100000
attribute [local go_sem ↓] Go.wp_at_zero Go.wp_at_succ
variable {bs : Nat}

/-- A list of strings lies there. -/
def StrAt (w : World) (a : Option Addr) (l : List (List UInt8)) : Prop := ∀ j, j < l.length → ∃ g, a = some ⟨g, 0, none⟩ ∧ (∃ cs, w.heap[g]? = some (.cells cs 9 (0, 0))) ∧ w.cell? ⟨g, j, none⟩ = some (S (l.getD j []))
set_option maxHeartbeats 1000000 in
theorem strIndex_any (l : List (List UInt8)) (s : List UInt8) (a : Option Addr) (cap : Nat) (w : World) (hl : l.length ≤ 2000) (hc : StrAt w a l) :
    Calls Tryz.prog 153 #[.slice a l.length cap, S s] w fun e w' => e = .returned (.int .i64 (idx l s)) ∧ w' = w := by
  have HC : Hid _ := hc
  clear hc
  go_enter Tryz.func153, Tryz.ntmps153
  go_wp2
  go_loop [8] (fun i => ∃ k : Nat, k ≤ l.length ∧ i = .int .i64 k ∧ Hid (idx l s = (if idx (l.drop k) s < 0 then -1 else idx (l.drop k) s + k))) (fun i => l.length - (intOf i).toNat)
  case atStart =>
    refine ⟨0, Nat.zero_le _, rfl, ?_⟩
    have := idx_ge l s
    show _ = _
    simp; omega
  case round =>
    obtain ⟨k, hk, rfl, H⟩ := hrel
    by_cases hlt : k < l.length
    · obtain ⟨g, rfl, _, hcell⟩ := HC.out k hlt
      have HD : Hid _ := idx_drop l s k hlt
      have HE : Hid (l[k] = l.getD k []) := by show _ = _; rw [List.getD_eq_getElem?_getD, List.getElem?_eq_getElem hlt]; rfl
      clear HC
      generalize l.getD k [] = x at *
      have hge := idx_ge (l.drop (k + 1)) s
      by_cases hx : s = x
      · subst hx
        go_wp2
        go_ret
        refine ⟨ret_int ?_, rfl⟩
        rw [H.out, HD.out, HE.out]; simp
      · have hx2 : (s == x) = false := by simpa using hx
        have HX : Hid _ := hx
        clear hx
        go_wp2
        refine ⟨⟨k + 1, by omega, by go_num, ?_⟩, by simp [intOf]; omega⟩
        show _ = _
        have hxs : ¬ (x == s) = true := fun e => HX.out (beq_iff_eq.1 e).symm
        rw [H.out, HD.out, HE.out, if_neg hxs]
        by_cases h0 : idx (l.drop (k + 1)) s < 0
        · rw [if_pos h0, if_pos h0]; rfl
        · rw [if_neg h0, if_neg h0, if_neg (by omega)]; omega
    · go_wp2
      go_ret
      refine ⟨ret_int ?_, rfl⟩
      rw [H.out, List.drop_of_length_le (by omega)]
      simp [idx]
set_option maxHeartbeats 1000000 in
theorem strContains_any (l : List (List UInt8)) (s : List UInt8) (a : Option Addr) (cap : Nat) (w : World) (hl : l.length ≤ 2000) (hc : StrAt w a l) :
    Calls Tryz.prog 109 #[.slice a l.length cap, S s] w fun e w' => e = .returned (.bool (decide (0 ≤ idx l s))) ∧ w' = w := by
  have HI := strIndex_any l s a cap w hl hc
  clear hc
  have hge := idx_ge l s
  have hle := idx_le l s
  have hle2 : idx l s ≤ 2000 := by
    rcases hle with h | h
    · omega
    · rw [h]; simp [idx]
  clear hle
  generalize idx l s = r at *
  go_enter Tryz.func109, Tryz.ntmps109
  go_wp2_with fail
  refine HI.mono ?_
  rintro e w' ⟨rfl, rfl⟩
  clear HI
  go_wp2_with fail
  go_ret
  exact ⟨rfl, rfl⟩
end Go.Proofs.YtfkdailfcmnjlaaGreatDoor
