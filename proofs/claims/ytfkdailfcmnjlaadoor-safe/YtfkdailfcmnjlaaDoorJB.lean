/-
  Are two stacks the same? What two ways know. What is known on two ways that come to one place. What an effect does to a set. What an instruction does to what is known: fields, cells, the sign '='. What the other instructions do to what is known: by the table of effects.
-/
import Derived.Test.YtfkdailfcmnjlaaDoorJA
set_option linter.unusedVariables false
set_option linter.unusedSimpArgs false
namespace Go.Proofs.YtfkdailfcmnjlaaDoor
open Go Go.RowKit
set_option maxRecDepth 100000
attribute [local go_sem ↓] Go.wp_at_zero Go.wp_at_succ

set_option maxHeartbeats 2000000 in
theorem tequal_any {w : World} {v u : Value} {l m : List Int} (h : IR w 121 v l) (h2 : IR w 121 u m) (hl : l.length ≤ 5000) (hm : m.length ≤ 5000) :
    Calls Tryd.prog 97 #[v, u] w fun e w' => e = .returned (.bool (decide (l = m))) ∧ Below w.heap.size w w' := by
  obtain ⟨a, cap, rfl⟩ := h.sl
  obtain ⟨b, cap', rfl⟩ := h2.sl
  by_cases he : l.length = m.length
  · have HE : Hid _ := he
    have H1 : Hid _ := h
    have H2 : Hid _ := h2
    clear h h2
    go_enter Tryd.func97, Tryd.ntmps97
    go_wp2_with fail
    go_loopw [13] (fun i wr => ∃ k : Nat, k ≤ m.length ∧ i = .int .i64 k ∧ Hid (∀ q, q < k → l.getD q 0 = m.getD q 0) ∧ Hid (Below w.heap.size w wr)) (fun i _ => m.length - (intOf i).toNat)
    case atStart => exact ⟨0, Nat.zero_le _, rfl, fun q hq => by omega, Below.refl _ _⟩
    case round =>
      obtain ⟨k, hk, rfl, HQ, HB⟩ := hrel
      by_cases hlt : k < m.length
      · have H1' : IR wr 121 _ l := ownsRow_below H1.out HB.out
        have H2' : IR wr 121 _ m := ownsRow_below H2.out HB.out
        obtain ⟨g, c1, e1, _⟩ := H1'.form (by omega)
        obtain ⟨g2, c2, e2, _⟩ := H2'.form (by omega)
        simp at e1 e2
        obtain ⟨rfl, rfl⟩ := e1
        obtain ⟨rfl, rfl⟩ := e2
        have hc1 := H1'.cell (k := k) (by omega)
        have hc2 := H2'.cell (k := k) (by omega)
        have HX : Hid (l.getD k 0 = l.getD k 0 ∧ m.getD k 0 = m.getD k 0) := ⟨rfl, rfl⟩
        clear H1' H2'
        have HL : Hid (∀ x y, l.getD k 0 = x → m.getD k 0 = y → l.getD k 0 = x ∧ m.getD k 0 = y) := fun _ _ h1 h2 => ⟨h1, h2⟩
        generalize hx : l.getD k 0 = x at hc1
        generalize hy : m.getD k 0 = y at hc2
        have HXY : Hid _ := And.intro hx hy
        clear hx hy HX HL
        have hkm : (0 : Int) ≤ (k : Int) ∧ (k : Int) < (m.length : Int) := by omega
        have hkl : (0 : Int) ≤ (k : Int) ∧ (k : Int) < (l.length : Int) := by omega
        by_cases hxy : x = y
        · subst hxy
          go_wp2_with fail
          go_region
          go_wp2
          refine ⟨⟨k + 1, by omega, by go_num, fun q hq => ?_, HB.out.drew⟩, by simp [intOf]; omega⟩
          by_cases e : q = k
          · subst e; rw [HXY.out.1, HXY.out.2]
          · exact HQ.out q (by omega)
        · have hxy' : (x != y) = true := by simpa using hxy
          have HN : Hid (¬ l = m) := fun e => hxy (by rw [← HXY.out.1, ← HXY.out.2, e])
          go_wp2_with fail
          go_region
          go_wp2
          go_ret
          exact ⟨by simp [HN.out], HB.out.drew⟩
      · have HA : Hid (l = m) := by
          apply List.ext_getElem HE.out
          intro i h1 h2
          have := HQ.out i (by omega)
          rw [List.getD_eq_getElem?_getD, List.getD_eq_getElem?_getD, List.getElem?_eq_getElem h1, List.getElem?_eq_getElem h2] at this
          exact this
        go_wp2
        go_ret
        exact ⟨by simp [HA.out], HB.out⟩
  · have hne : ((l.length : Int) != (m.length : Int)) = true := by simp; omega
    have hd : decide (l = m) = false := by simp; intro e; exact he (by rw [e])
    rw [hd]
    clear h h2 hd
    go_enter Tryd.func97, Tryd.ntmps97
    go_wp2
    go_ret
    exact ⟨rfl, Below.refl _ _⟩
end Go.Proofs.YtfkdailfcmnjlaaDoor

namespace Go.Proofs.YtfkdailfcmnjlaaDoor
open Go Go.RowKit
set_option maxRecDepth 100000
attribute [local go_sem ↓] Go.wp_at_zero Go.wp_at_succ

theorem below2 (w : World) (o1 o2 : Obj) : Below w.heap.size w ((w.alloc o1).alloc o2) := ((Below.refl _ _).alloc (Nat.le_refl _) _).alloc (by simp) _
set_option maxHeartbeats 2000000 in
theorem ssame_any {w : World} {v u : Value} {l m : List Int} (h : IR w 121 v l) (h2 : IR w 121 u m) (hl : l.length ≤ 5000) (hm : m.length ≤ 5000) :
    Calls Tryd.prog 95 #[.agg #[v], .agg #[u]] w fun e w' => e = .returned (.bool (decide (l = m))) ∧ Below w.heap.size w w' := by
  have W1 : ∀ W, Below w.heap.size w W → Calls Tryd.prog 97 #[v, u] W fun e w' => e = .returned (.bool (decide (l = m))) ∧ Below W.heap.size W w' := fun W hb => tequal_any (ownsRow_below h hb) (ownsRow_below h2 hb) hl hm
  obtain ⟨a, cap, rfl⟩ := h.sl
  obtain ⟨b, cap', rfl⟩ := h2.sl
  clear h h2
  generalize decide (l = m) = r at *
  go_enter Tryd.func95, Tryd.ntmps95
  go_wp2_with (
    go_at_call 97
    refine (W1 _ (below2 w _ _)).mono ?_
    rintro e w' ⟨rfl, hb⟩)
  go_ret
  exact ⟨rfl, (below2 w _ _).trans (hb.mono (by simp; omega))⟩
/-- The cells that both know, as far as it was looked. -/
def metL (c d : List Int) (k : Nat) : List Int := (List.range c.length).map fun i => if i < k then (if c.getD i 0 = d.getD i 0 then c.getD i 0 else 0) else c.getD i 0
theorem metL_len (c d : List Int) (k : Nat) : (metL c d k).length = c.length := by simp [metL]
theorem metL_at (c d : List Int) (k : Nat) {i : Nat} (h : i < c.length) : (metL c d k).getD i 0 = if i < k then (if c.getD i 0 = d.getD i 0 then c.getD i 0 else 0) else c.getD i 0 := by
  rw [List.getD_eq_getElem?_getD, metL, List.getElem?_map, List.getElem?_range h]; rfl
theorem ext_getD {a b : List Int} (hl : a.length = b.length) (h : ∀ i, i < a.length → a.getD i 0 = b.getD i 0) : a = b := by
  apply List.ext_getElem hl
  intro i h1 h2
  have := h i h1
  rw [List.getD_eq_getElem?_getD, List.getD_eq_getElem?_getD, List.getElem?_eq_getElem h1, List.getElem?_eq_getElem h2] at this
  exact this
theorem metL_zero (c d : List Int) : metL c d 0 = c := ext_getD (metL_len _ _ _) (fun i hi => by rw [metL_len] at hi; rw [metL_at _ _ _ hi, if_neg (by omega)])
theorem getD_setI (l : List Int) (k : Nat) (x : Int) (i : Nat) : (l.set k x).getD i 0 = if i = k ∧ k < l.length then x else l.getD i 0 := by
  rw [List.getD_eq_getElem?_getD, List.getElem?_set, List.getD_eq_getElem?_getD]
  by_cases e : k = i
  · subst e
    by_cases h : k < l.length
    · simp [h]
    · simp [h, List.getElem?_eq_none (Nat.le_of_not_lt h)]
  · rw [if_neg e, if_neg (fun h => e h.1.symm)]
theorem metL_same {c d : List Int} {k : Nat} (h : k < c.length) (e : c.getD k 0 = d.getD k 0) : metL c d (k + 1) = metL c d k :=
  ext_getD (by simp [metL_len]) (fun i hi => by
    rw [metL_len] at hi
    rw [metL_at _ _ _ hi, metL_at _ _ _ hi]
    by_cases q : i = k
    · subst q; rw [if_pos (by omega), if_pos e, if_neg (by omega)]
    · by_cases q2 : i < k
      · rw [if_pos (by omega), if_pos q2]
      · rw [if_neg (by omega), if_neg q2])
theorem metL_off {c d : List Int} {k : Nat} (h : k < c.length) (e : c.getD k 0 ≠ d.getD k 0) : metL c d (k + 1) = (metL c d k).set k 0 :=
  ext_getD (by simp [metL_len]) (fun i hi => by
    rw [metL_len] at hi
    rw [metL_at _ _ _ hi, getD_setI, metL_len, metL_at _ _ _ hi]
    by_cases q : i = k
    · subst q; rw [if_pos (by omega), if_neg e, if_pos ⟨rfl, h⟩]
    · rw [if_neg (c := i = k ∧ k < c.length) (fun a => q a.1)]
      by_cases q2 : i < k
      · rw [if_pos (by omega), if_pos q2]
      · rw [if_neg (by omega), if_neg q2])
set_option maxHeartbeats 4000000 in
theorem smeet_any {w : World} {p q : Nat} {vs vc us uc : Value} {st c st2 c2 : List Int} (h : SetAt w p vs vc st c) (h2 : SetAt w q us uc st2 c2) (hd : ∀ b, Foot p vs vc b → ¬ Foot q us uc b) (hl : st.length ≤ 5000) (hl2 : st2.length ≤ 5000) (hc : c.length ≤ 5000) :
    Calls Tryd.prog 77 #[.pointer (some ⟨p, 0, none⟩), .pointer (some ⟨q, 0, none⟩)] w fun e w' => e = .returned (.bool (decide (st = st2))) ∧ SetOut w w' p vs vc st (metL c c2 c.length) := by
  have hpc : w.cell? ⟨p, 1, none⟩ = some vc := by rw [cell_of_row w p 1 _ _ _ h.blk]; rfl
  have H : Hid _ := h
  have H2 : Hid _ := h2
  have HD : Hid _ := hd
  obtain ⟨a, cap, rfl⟩ := h.cl.sl
  clear h h2 hd
  go_enter Tryd.func77, Tryd.ntmps77
  go_wp2_with fail
  go_loopw [13] (fun i wr => ∃ k : Nat, k ≤ c.length ∧ i = .int .i64 k ∧ Hid (Only (fun b => (Value.slice a c.length cap).ownBlock = some b) w wr) ∧ Hid (IR wr 121 (.slice a c.length cap) (metL c c2 k))) (fun i _ => c.length - (intOf i).toNat)
  case atStart => exact ⟨0, Nat.zero_le _, rfl, Only.refl _ _, by rw [metL_zero]; exact H.out.cl⟩
  case round =>
    obtain ⟨k, hk, rfl, HO, HI⟩ := hrel
    have H2r : SetAt wr q us uc st2 c2 := H2.out.only HO.out (fun b hb h => HD.out b (.inr (.inr h)) hb)
    have hpr : wr.cell? ⟨p, 1, none⟩ = some (.slice a c.length cap) := by
      rw [World.cell?_of_block (w := w) (a := ⟨p, 1, none⟩) (HO.out.block p (lt_of_get H.out.blk) (H.out.cl.ne H.out.blk ty_ne))]; exact hpc
    by_cases hlt : k < c.length
    · have hkc : (0 : Int) ≤ (k : Int) ∧ (k : Int) < (c.length : Int) := by omega
      obtain ⟨g, c1, e1, _⟩ := HI.out.form (by rw [metL_len]; omega)
      simp at e1
      obtain ⟨rfl, hbad, rfl⟩ := e1
      clear hbad
      have hcell := HI.out.cell (k := k) (by rw [metL_len]; omega)
      have hfr := HI.out.frz k
      rw [metL_at _ _ _ hlt, if_neg (Nat.lt_irrefl k)] at hcell
      have W1 := sof_any k H2r
      have HC : Hid (∀ x y, c.getD k 0 = x → c2.getD k 0 = y → c.getD k 0 = x ∧ c2.getD k 0 = y) := fun _ _ h1 h2 => ⟨h1, h2⟩
      generalize hx : c.getD k 0 = x at hcell
      generalize hy : c2.getD k 0 = y at W1
      have HXY : Hid _ := And.intro hx hy
      clear hx hy HC H2r
      by_cases hxy : x = y
      · subst hxy
        go_wp2_with (
          go_at_call 74
          refine W1.mono ?_
          rintro e w' ⟨rfl, rfl⟩)
        go_roundw
        case rel =>
          refine ⟨k + 1, by omega, by go_num, HO.out, ?_⟩
          rw [metL_same hlt (HXY.out.1.trans HXY.out.2.symm)]; exact HI.out
        case measure => simp [intOf]; omega
      · have hxy' : (x != y) = true := by simpa using hxy
        have HN : Hid (c.getD k 0 ≠ c2.getD k 0) := fun e => hxy (by rw [← HXY.out.1, ← HXY.out.2, e])
        go_wp2_with (
          go_at_call 74
          refine W1.mono ?_
          rintro e w' ⟨rfl, rfl⟩)
        go_roundw
        case rel =>
          refine ⟨k + 1, by omega, by go_num, HO.out.setCell (.inl rfl) _, ?_⟩
          rw [metL_off hlt HN.out]
          have := HI.out
          rw [← metL_len c c2 k] at this ⊢
          exact this.set (by rw [metL_len]; exact hlt) 0
        case measure => simp [intOf]; omega
    · have hkl : k = c.length := by omega
      subst hkl
      have hst : IR wr 121 vs st := H.out.st.only HO.out (fun g hg h => H.out.ne g hg h)
      have hpr0 : wr.cell? ⟨p, 0, none⟩ = some vs := by
        rw [World.cell?_of_block (w := w) (a := ⟨p, 0, none⟩) (HO.out.block p (lt_of_get H.out.blk) (H.out.cl.ne H.out.blk ty_ne)), cell_of_row w p 0 _ _ _ H.out.blk]; rfl
      have hqr0 : wr.cell? ⟨q, 0, none⟩ = some us := by rw [cell_of_row wr q 0 _ _ _ H2r.blk]; rfl
      have W1 : ∀ W, Below wr.heap.size wr W → Calls Tryd.prog 95 #[.agg #[vs], .agg #[us]] W fun e w' => e = .returned (.bool (decide (st = st2))) ∧ Below W.heap.size W w' := fun W hb => ssame_any (ownsRow_below hst hb) (ownsRow_below H2r.st hb) hl hl2
      obtain ⟨sa, scap, rfl⟩ := hst.sl
      obtain ⟨ua, ucap, rfl⟩ := H2r.st.sl
      have HA : Hid (∀ w', Below wr.heap.size wr w' → SetOut w w' p (.slice sa st.length scap) (.slice a c.length cap) st (metL c c2 c.length)) := fun w' hb => by
        have hblk : wr.heap[p]? = _ := (HO.out.block p (lt_of_get H.out.blk) (H.out.cl.ne H.out.blk ty_ne)).trans H.out.blk
        refine ⟨_, _, ⟨(hb.block p (lt_of_get hblk)).trans hblk, ownsRow_below hst hb, ownsRow_below HI.out hb, H.out.ne⟩, ?_, fun b hb => .inl hb⟩
        exact HO.out.trans (Only.of_below (F := fun _ => False) hb) (fun i _ h => .inr (.inr h)) (fun i _ h => h.elim)
      have KP : Hid (∀ W W', (Below wr.heap.size wr W ∧ W.cell? ⟨p, 0, none⟩ = some (.slice sa st.length scap) ∧ W.cell? ⟨q, 0, none⟩ = some (.slice ua st2.length ucap)) → Below W.heap.size W W' → (Below wr.heap.size wr W' ∧ W'.cell? ⟨p, 0, none⟩ = some (.slice sa st.length scap) ∧ W'.cell? ⟨q, 0, none⟩ = some (.slice ua st2.length ucap))) := fun W W' hS hb => ⟨hS.1.trans (hb.mono hS.1.size), by rw [hb.cell (World.block_lt_of_cell? W _ hS.2.1)]; exact hS.2.1, by rw [hb.cell (World.block_lt_of_cell? W _ hS.2.2)]; exact hS.2.2⟩
      have KD : Hid (∀ W : World, (Below wr.heap.size wr W ∧ W.cell? ⟨p, 0, none⟩ = some (.slice sa st.length scap) ∧ W.cell? ⟨q, 0, none⟩ = some (.slice ua st2.length ucap)) → (Below wr.heap.size wr W.drew ∧ W.drew.cell? ⟨p, 0, none⟩ = some (.slice sa st.length scap) ∧ W.drew.cell? ⟨q, 0, none⟩ = some (.slice ua st2.length ucap))) := fun W hS => ⟨hS.1.drew, hS.2⟩
      have hS0 : Below wr.heap.size wr wr ∧ wr.cell? ⟨p, 0, none⟩ = some (.slice sa st.length scap) ∧ wr.cell? ⟨q, 0, none⟩ = some (.slice ua st2.length ucap) := ⟨Below.refl _ _, hpr0, hqr0⟩
      clear hst H2r HO HI hpr
      generalize hr : decide (st = st2) = r at W1
      have HR : Hid _ := hr
      clear hr
      go_wp2_with fail
      go_region_held3 (fun w' => Below wr.heap.size wr w' ∧ w'.cell? ⟨p, 0, none⟩ = some (.slice sa st.length scap) ∧ w'.cell? ⟨q, 0, none⟩ = some (.slice ua st2.length ucap)) (first | with_reducible exact KD.out _ (by assumption) | with_reducible exact KP.out _ _ (by assumption) (by assumption) | with_reducible assumption | go_keep)
        (first
          | (go_at_call 95; refine (W1 _ (by exact And.left (by assumption))).mono ?_; rintro e w1 ⟨rfl, hb1⟩))
      rename_i hHeld
      have HB : Hid _ := hHeld.1
      clear hHeld KP KD W1 hS0
      go_wp2
      go_ret
      exact ⟨by rw [HR.out]; rfl, HA.out _ HB.out⟩
end Go.Proofs.YtfkdailfcmnjlaaDoor

namespace Go.Proofs.YtfkdailfcmnjlaaDoor
open Go Go.RowKit
set_option maxRecDepth 100000
attribute [local go_sem ↓] Go.wp_at_zero Go.wp_at_succ

/-- So many of one type are taken off. -/
def onS : Nat → Int → List Int → Option (List Int)
  | 0, _, st => some st
  | n + 1, t, st => if st.getLast?.getD 0 = t then onS n t st.dropLast else none
/-- What a change of a set leaves: the stack and the cells, or a failure. -/
def ChAns (w : World) (p : Nat) (vs vc : Value) (r : Option (List Int × List Int)) (e : Ending) (w' : World) : Prop := match r with
  | some x => e = .returned (.bool true) ∧ SetOut w w' p vs vc x.1 x.2
  | none => e = .returned (.bool false) ∧ Only (Foot p vs vc) w w'
theorem SetOut.only {w w' : World} {p : Nat} {vs vc : Value} {st c : List Int} (h : SetOut w w' p vs vc st c) : Only (Foot p vs vc) w w' := by
  obtain ⟨_, _, _, h, _⟩ := h; exact h
def onR (n : Nat) (t o : Int) (st c : List Int) : Option (List Int × List Int) := (onS n t st).map fun r => (if o = 0 then r else r ++ [o], c)
theorem SetOut.alloc {w w' : World} {p : Nat} {vs vc : Value} {st c : List Int} {o : Obj} (h : SetOut (w.alloc o) w' p vs vc st c) : SetOut w w' p vs vc st c :=
  SetOut.then ((Only.refl _ w).alloc o) (fun _ hb => .inl hb) h
set_option maxHeartbeats 4000000 in
theorem eon_any {w : World} {p : Nat} {vs vc : Value} {st c : List Int} (n : Nat) (t o : Int) (h : SetAt w p vs vc st c) (hl : st.length ≤ 4000) (hn : n ≤ 10) :
    Calls Tryd.prog 75 #[.agg #[.int .i64 n, .int .i64 t, .int .i64 o], .pointer (some ⟨p, 0, none⟩)] w fun e w' => ChAns w p vs vc (onR n t o st c) e w' := by
  have hblk : (w.alloc (.cells #[.int .i64 n, .int .i64 t, .int .i64 o] 140)).heap[w.heap.size]? = _ := heap_alloc_new w _
  have hs1 : SetAt (w.alloc (.cells #[.int .i64 n, .int .i64 t, .int .i64 o] 140)) p vs vc st c := h.only ((Only.refl (fun _ => False) w).alloc _) (fun _ _ h => h)
  have hfr : ∀ b, Foot p vs vc b → b < w.heap.size := fun b hb => h.lt hb
  have hc0 : (w.alloc (.cells #[.int .i64 n, .int .i64 t, .int .i64 o] 140)).cell? ⟨w.heap.size, 0, none⟩ = some (.int .i64 n) := by rw [cell_of_row _ _ 0 _ _ _ hblk]; rfl
  have HS : Hid _ := hs1
  have HF : Hid _ := hfr
  have HB : Hid _ := hblk
  have HW : Hid (∀ w' st c, SetOut (w.alloc (.cells #[.int .i64 n, .int .i64 t, .int .i64 o] 140)) w' p vs vc st c → SetOut w w' p vs vc st c) := fun _ _ _ h => h.alloc
  have HW2 : Hid (∀ w', Only (Foot p vs vc) (w.alloc (.cells #[.int .i64 n, .int .i64 t, .int .i64 o] 140)) w' → Only (Foot p vs vc) w w') := fun _ h => ((Only.refl (Foot p vs vc) w).alloc _).trans h (fun _ _ h => h) (fun _ _ h => h)
  have HZ : Hid (w.heap.size < (w.alloc (.cells #[.int .i64 n, .int .i64 t, .int .i64 o] 140)).heap.size) := by show _ < _; rw [World.size_alloc]; omega
  clear h hs1 hfr hblk
  go_enter Tryd.func75, Tryd.ntmps75
  go_wp2_with fail
  generalize w.alloc (.cells #[.int .i64 n, .int .i64 t, .int .i64 o] 140) = w1 at *
  go_loopw [7] (fun i wr => ∃ k : Nat, k ≤ n ∧ i = .int .i64 k ∧ Hid (∃ st1, SetOut w1 wr p vs vc st1 c ∧ onS n t st = onS (n - k) t st1 ∧ st1.length ≤ 4000)) (fun i _ => n - (intOf i).toNat)
  case atStart => exact ⟨0, Nat.zero_le _, rfl, st, SetOut.refl HS.out, rfl, hl⟩
  case round =>
    obtain ⟨k, hk, rfl, HI⟩ := hrel
    obtain ⟨st1, ⟨vs1, vc1, hset, hon, hft⟩, hons, hlen⟩ := HI.out
    have hb1 : wr.heap[w.heap.size]? = _ := (hon.block w.heap.size HZ.out (fun h => by have := HF.out _ h; omega)).trans HB.out
    have hc1 : wr.cell? ⟨w.heap.size, 1, none⟩ = some (.int .i64 t) := by rw [cell_of_row _ _ 1 _ _ _ hb1]; rfl
    have hc2 : wr.cell? ⟨w.heap.size, 2, none⟩ = some (.int .i64 o) := by rw [cell_of_row _ _ 2 _ _ _ hb1]; rfl
    by_cases hlt : k < n
    · have W1 := spop_any hset.drew (by omega)
      have hne : ¬ Foot p vs1 vc1 w.heap.size := fun h => by
        rcases hft _ h with h | h
        · have := HF.out _ h; omega
        · have := HZ.out; omega
      have HK : Hid (∀ W', SetOut wr.drew W' p vs1 vc1 st1.dropLast c → W'.cell? ⟨w.heap.size, 1, none⟩ = some (.int .i64 t)) := fun W' h => by
        rw [World.cell?_of_block (w := wr.drew) (a := ⟨w.heap.size, 1, none⟩) (h.only.block _ (lt_of_get (w := wr.drew) hb1) hne)]; exact hc1
      have HN : Hid (∀ W', SetOut wr.drew W' p vs1 vc1 st1.dropLast c → SetOut w1 W' p vs vc st1.dropLast c) := fun W' h => SetOut.then hon.drew hft h
      have HL : Hid (n - k = n - (k + 1) + 1 ∧ st1.dropLast.length ≤ 4000) := ⟨by omega, by simp; omega⟩
      have HO : Hid _ := hons
      clear hset hon hft hons hb1 hne HI
      by_cases hx : st1.getLast?.getD 0 = t
      · rw [hx] at W1
        have HX : Hid _ := hx
        clear hx
        go_wp2_with fail
        go_region_held3 (fun w' => w'.cell? ⟨w.heap.size, 1, none⟩ = some (.int .i64 t)) (first | with_reducible exact HK.out _ (by assumption) | with_reducible assumption | go_keep)
          (first | (go_at_call 72; refine W1.mono ?_; rintro e w2 ⟨rfl, hout⟩))
        rename_i hHeld
        clear hHeld
        have HU : Hid _ := hout
        clear hout
        go_wp2
        go_roundw
        case rel =>
          refine ⟨k + 1, by omega, by go_num, st1.dropLast, HN.out _ HU.out, ?_, HL.out.2⟩
          rw [HO.out, HL.out.1, onS, if_pos HX.out]
        case measure => simp [intOf]; omega
      · have hx' : ((st1.getLast?.getD 0) != t) = true := by simpa using hx
        have HX : Hid _ := hx
        generalize st1.getLast?.getD 0 = x at W1 hx'
        clear hx
        go_wp2_with fail
        go_region_held3 (fun w' => w'.cell? ⟨w.heap.size, 1, none⟩ = some (.int .i64 t)) (first | with_reducible exact HK.out _ (by assumption) | with_reducible assumption | go_keep)
          (first | (go_at_call 72; refine W1.mono ?_; rintro e w2 ⟨rfl, hout⟩))
        rename_i hHeld
        clear hHeld
        have HU : Hid _ := hout
        clear hout
        go_wp2
        go_ret
        have e1 : onR n t o st c = none := by unfold onR; rw [HO.out, HL.out.1, onS, if_neg HX.out]; rfl
        rw [e1]
        exact ⟨rfl, HW2.out _ (HN.out _ HU.out).only⟩
    · have hkn : n - k = 0 := by omega
      rw [hkn] at hons
      have e1 : onR n t o st c = some (if o = 0 then st1 else st1 ++ [o], c) := by unfold onR; rw [hons]; rfl
      have HE : Hid _ := e1
      have HS1 : Hid (SetOut w1 wr p vs vc st1 c) := ⟨vs1, vc1, hset, hon, hft⟩
      by_cases ho : o = 0
      · subst ho
        clear hset hon hft hons e1 HI hkn
        go_wp2
        go_ret
        rw [HE.out]
        exact ⟨rfl, HW.out _ _ _ HS1.out⟩
      · have ho' : (o != 0) = true := by simpa using ho
        have W1 := spush_any o hset.drew (by omega)
        have hne : ¬ Foot p vs1 vc1 w.heap.size := fun h => by
          rcases hft _ h with h | h
          · have := HF.out _ h; omega
          · have := HZ.out; omega
        have HK : Hid (∀ W', SetOut wr.drew W' p vs1 vc1 (st1 ++ [o]) c → W'.cell? ⟨w.heap.size, 2, none⟩ = some (.int .i64 o)) := fun W' h => by
          rw [World.cell?_of_block (w := wr.drew) (a := ⟨w.heap.size, 2, none⟩) (h.only.block _ (lt_of_get (w := wr.drew) hb1) hne)]; exact hc2
        have HN : Hid (∀ W', SetOut wr.drew W' p vs1 vc1 (st1 ++ [o]) c → SetOut w1 W' p vs vc (st1 ++ [o]) c) := fun W' h => SetOut.then hon.drew hft h
        have HO : Hid _ := ho
        clear hset hon hft hons e1 HI hkn ho hne hb1
        go_wp2_with fail
        go_region_held3 (fun w' => w'.cell? ⟨w.heap.size, 2, none⟩ = some (.int .i64 o)) (first | with_reducible exact HK.out _ (by assumption) | with_reducible assumption | go_keep)
          (first | (go_at_call 70; refine W1.mono ?_; rintro e w2 ⟨rfl, hout⟩))
        rename_i hHeld
        clear hHeld
        have HU : Hid _ := hout
        clear hout
        go_wp2
        go_ret
        rw [HE.out, if_neg HO.out]
        exact ⟨rfl, HW.out _ _ _ (HN.out _ HU.out)⟩
end Go.Proofs.YtfkdailfcmnjlaaDoor

namespace Go.Proofs.YtfkdailfcmnjlaaDoor
open Go Go.RowKit
set_option maxRecDepth 100000
attribute [local go_sem ↓] Go.wp_at_zero Go.wp_at_succ

def fieldI (n : Nat) : Int := if n ≤ 3 then 1 else if n ≤ 6 then 3 else 2
set_option maxHeartbeats 1000000 in
theorem ofField_any (n : Nat) (w : World) : Calls Tryd.prog 71 #[.int .i64 n] w fun e w' => e = .returned (.int .i64 (fieldI n)) ∧ w' = w := by
  go_enter Tryd.func71, Tryd.ntmps71
  go_wp2
  all_goals go_ret
  all_goals refine ⟨ret_int ?_, rfl⟩
  all_goals (unfold fieldI; repeat' split) <;> first | rfl | omega
/-- An instruction as a value. -/
def insV (op : Nat) (n to pl : Int) : Value := .agg #[.int .i64 op, .int .i64 n, .int .i64 to, .int .i64 pl]
def insO (op : Nat) (n to pl : Int) : Obj := .cells #[.int .i64 op, .int .i64 n, .int .i64 to, .int .i64 pl] 105 (0, 0)
/-- What stands at the beginning of a change: the instruction's block is laid. -/
structure ChStart (w w1 : World) (p : Nat) (vs vc : Value) (st c : List Int) (op : Nat) (n to pl : Int) : Prop where
  set : SetAt w1 p vs vc st c
  far : ∀ b, Foot p vs vc b → b < w.heap.size
  blk : w1.heap[w.heap.size]? = some (insO op n to pl)
  siz : w.heap.size < w1.heap.size
  out : ∀ w' st c, SetOut w1 w' p vs vc st c → SetOut w w' p vs vc st c
  only : ∀ w', Only (Foot p vs vc) w1 w' → Only (Foot p vs vc) w w'
theorem ChStart.of {w : World} {p : Nat} {vs vc : Value} {st c : List Int} (h : SetAt w p vs vc st c) (op : Nat) (n to pl : Int) : ChStart w (w.alloc (insO op n to pl)) p vs vc st c op n to pl :=
  ⟨h.only ((Only.refl (fun _ => False) w).alloc _) (fun _ _ h => h), fun b hb => h.lt hb, heap_alloc_new w _, by rw [World.size_alloc]; omega, fun _ _ _ h => h.alloc, fun _ h => ((Only.refl (Foot p vs vc) w).alloc _).trans h (fun _ _ h => h) (fun _ _ h => h)⟩
theorem ChStart.cells {w w1 : World} {p : Nat} {vs vc : Value} {st c : List Int} {op : Nat} {n to pl : Int} (h : ChStart w w1 p vs vc st c op n to pl) : w1.cell? ⟨w.heap.size, 0, none⟩ = some (.int .i64 op) ∧ w1.cell? ⟨w.heap.size, 1, none⟩ = some (.int .i64 n) ∧ w1.cell? ⟨w.heap.size, 2, none⟩ = some (.int .i64 to) := by
  have hc := fun j => cell_of_row w1 _ j _ _ _ h.blk
  exact ⟨hc 0, hc 1, hc 2⟩
/-- The instruction's block stays behind whatever is done to the set. -/
theorem ChStart.after {w w1 w2 : World} {p : Nat} {vs vc : Value} {st c st2 c2 : List Int} {op : Nat} {n to pl : Int} (h : ChStart w w1 p vs vc st c op n to pl) (ho : SetOut w1 w2 p vs vc st2 c2) : w2.cell? ⟨w.heap.size, 0, none⟩ = some (.int .i64 op) ∧ w2.cell? ⟨w.heap.size, 1, none⟩ = some (.int .i64 n) ∧ w2.cell? ⟨w.heap.size, 2, none⟩ = some (.int .i64 to) := by
  have hb : w2.heap[w.heap.size]? = _ := (ho.only.block _ h.siz (fun hf => by have := h.far _ hf; omega)).trans h.blk
  have hc := fun j => cell_of_row w2 _ j _ _ _ hb
  exact ⟨hc 0, hc 1, hc 2⟩
theorem SetOut.drew {w w' : World} {p : Nat} {vs vc : Value} {st c : List Int} (h : SetOut w w' p vs vc st c) : SetOut w w'.drew p vs vc st c := by
  obtain ⟨vs', vc', h1, h2, h3⟩ := h
  exact ⟨vs', vc', h1.drew, h2.drew, h3⟩
theorem SetOut.of_drew {w w' : World} {p : Nat} {vs vc : Value} {st c : List Int} (h : SetOut w.drew w' p vs vc st c) : SetOut w w' p vs vc st c := by
  obtain ⟨vs', vc', h1, h2, h3⟩ := h
  exact ⟨vs', vc', h1, h2.of_drew, h3⟩
/-- Another call on the set, behind earlier ones. -/
theorem SetOut.push {w w1 : World} {p : Nat} {vs vc : Value} {st c : List Int} (h : SetOut w w1 p vs vc st c) (x : Int) (hl : st.length ≤ 5000) :
    Calls Tryd.prog 70 #[.pointer (some ⟨p, 0, none⟩), .int .i64 x] w1 fun e w' => e = .returned (.tuple #[]) ∧ SetOut w w' p vs vc (st ++ [x]) c := by
  obtain ⟨vs', vc', h1, h2, h3⟩ := h
  refine (spush_any x h1 hl).mono ?_
  rintro e w' ⟨rfl, ho⟩
  exact ⟨rfl, SetOut.then h2 h3 ho⟩
theorem SetOut.pop {w w1 : World} {p : Nat} {vs vc : Value} {st c : List Int} (h : SetOut w w1 p vs vc st c) (hl : st.length ≤ 5000) :
    Calls Tryd.prog 72 #[.pointer (some ⟨p, 0, none⟩)] w1 fun e w' => e = .returned (.int .i64 (st.getLast?.getD 0)) ∧ SetOut w w' p vs vc st.dropLast c := by
  obtain ⟨vs', vc', h1, h2, h3⟩ := h
  refine (spop_any h1 hl).mono ?_
  rintro e w' ⟨rfl, ho⟩
  exact ⟨rfl, SetOut.then h2 h3 ho⟩
theorem SetOut.learn {w w1 : World} {p : Nat} {vs vc : Value} {st c : List Int} (h : SetOut w w1 p vs vc st c) (k : Nat) (x : Int) (hk : k ≤ 255) (hc : c.length ≤ 256) :
    Calls Tryd.prog 73 #[.pointer (some ⟨p, 0, none⟩), .int .i64 k, .int .i64 x] w1 fun e w' => e = .returned (.tuple #[]) ∧ SetOut w w' p vs vc st (learnL c k x) := by
  obtain ⟨vs', vc', h1, h2, h3⟩ := h
  refine (slearn_any k x h1 hk hc).mono ?_
  rintro e w' ⟨rfl, ho⟩
  exact ⟨rfl, SetOut.then h2 h3 ho⟩
set_option maxHeartbeats 4000000 in
theorem change4 {w : World} {p : Nat} {vs vc : Value} {st c : List Int} (n : Nat) (to pl : Int) (h : SetAt w p vs vc st c) (hl : st.length ≤ 4000) (hn : n ≤ 255) :
    Calls Tryd.prog 41 #[insV 4 n to pl, .pointer (some ⟨p, 0, none⟩)] w fun e w' => ChAns w p vs vc (some (st ++ [fieldI n], c)) e w' := by
  obtain ⟨w1, hw1, H0⟩ : ∃ w1, w.alloc (.cells #[.int .i64 4, .int .i64 n, .int .i64 to, .int .i64 pl] 105) = w1 ∧ ChStart w w1 p vs vc st c 4 n to pl := ⟨_, rfl, ChStart.of h 4 n to pl⟩
  unfold insV
  have H : Hid _ := H0
  obtain ⟨_, c1, _⟩ := H0.cells
  have W1 := fun w => ofField_any n w
  have W2 := (SetOut.refl H0.set).drew.push (fieldI n) (by omega)
  generalize fieldI n = f at *
  have HW : Hid _ := hw1
  have HK : Hid (∀ W' st2 c2, SetOut w1 W' p vs vc st2 c2 → W'.cell? ⟨w.heap.size, 1, none⟩ = some (.int .i64 n)) := fun W' _ _ h => (H0.after h).2.1
  clear h H0 hw1
  go_enter Tryd.func41, Tryd.ntmps41
  go_wp2_with fail
  rw [HW.out]
  go_region_held3 (fun w' => w'.cell? ⟨w.heap.size, 1, none⟩ = some (.int .i64 n)) (first | with_reducible exact HK.out _ _ _ (by assumption) | with_reducible assumption | go_keep)
    (first
      | (go_at_call 71; refine (W1 _).mono ?_; rintro e w2 ⟨rfl, rfl⟩)
      | (go_at_call 70; refine W2.mono ?_; rintro e w2 ⟨rfl, hout⟩))
  rename_i hHeld
  clear hHeld
  have HU : Hid _ := hout
  clear hout
  go_wp2
  go_ret
  exact ⟨rfl, H.out.out _ _ _ HU.out⟩
set_option maxHeartbeats 4000000 in
theorem change5 {w : World} {p : Nat} {vs vc : Value} {st c : List Int} (n : Nat) (to pl : Int) (h : SetAt w p vs vc st c) (hl : st.length ≤ 4000) (hc : c.length ≤ 256) (hn : n ≤ 255) :
    Calls Tryd.prog 41 #[insV 5 n to pl, .pointer (some ⟨p, 0, none⟩)] w fun e w' => ChAns w p vs vc (if st.getLast?.getD 0 = 0 then none else some (st.dropLast, learnL c n (st.getLast?.getD 0))) e w' := by
  obtain ⟨w1, hw1, H0⟩ : ∃ w1, w.alloc (.cells #[.int .i64 5, .int .i64 n, .int .i64 to, .int .i64 pl] 105) = w1 ∧ ChStart w w1 p vs vc st c 5 n to pl := ⟨_, rfl, ChStart.of h 5 n to pl⟩
  unfold insV
  have H : Hid _ := H0
  obtain ⟨_, c1, _⟩ := H0.cells
  have W1 := (SetOut.refl H0.set).pop (by omega)
  have W2 : ∀ W x, SetOut w1 W p vs vc st.dropLast c → _ := fun W x h => h.learn n x hn hc
  generalize st.getLast?.getD 0 = t at *
  have HW : Hid _ := hw1
  have HK : Hid (∀ W' st2 c2, SetOut w1 W' p vs vc st2 c2 → W'.cell? ⟨w.heap.size, 1, none⟩ = some (.int .i64 n)) := fun W' _ _ h => (H0.after h).2.1
  clear h H0 hw1
  go_enter Tryd.func41, Tryd.ntmps41
  go_wp2_with (
    rw [HW.out]
    go_at_call 72
    refine W1.mono ?_
    rintro e w2 ⟨rfl, hout⟩
    have c2 := HK.out _ _ _ hout
    have HU : Hid _ := hout
    clear hout)
  refine (W2 w2 t HU.out).mono ?_
  rintro e w3 ⟨rfl, hout⟩
  have HV : Hid _ := hout
  clear hout W1 W2 HU
  by_cases ht : t = 0
  · subst ht
    go_wp2
    go_ret
    exact ⟨rfl, H.out.only _ (SetOut.only HV.out)⟩
  · have ht' : (t != 0) = true := by simpa using ht
    have HT : Hid _ := ht
    clear ht
    go_wp2
    go_ret
    exact ⟨rfl, H.out.out _ _ _ HV.out⟩
theorem SetOut.of {w w1 : World} {p : Nat} {vs vc : Value} {st c : List Int} (h : SetOut w w1 p vs vc st c) (k : Nat) :
    Calls Tryd.prog 74 #[.pointer (some ⟨p, 0, none⟩), .int .i64 k] w1 fun e w' => e = .returned (.int .i64 (c.getD k 0)) ∧ w' = w1 := by
  obtain ⟨vs', vc', h1, h2, h3⟩ := h
  exact sof_any k h1
set_option maxHeartbeats 4000000 in
theorem change6 {w : World} {p : Nat} {vs vc : Value} {st c : List Int} (n : Nat) (to pl : Int) (h : SetAt w p vs vc st c) (hl : st.length ≤ 4000) (hc : c.length ≤ 256) (hn : n ≤ 255) :
    Calls Tryd.prog 41 #[insV 6 n to pl, .pointer (some ⟨p, 0, none⟩)] w fun e w' => ChAns w p vs vc (if c.getD n 0 = 0 then none else some (st ++ [c.getD n 0], c)) e w' := by
  obtain ⟨w1, hw1, H0⟩ : ∃ w1, w.alloc (.cells #[.int .i64 6, .int .i64 n, .int .i64 to, .int .i64 pl] 105) = w1 ∧ ChStart w w1 p vs vc st c 6 n to pl := ⟨_, rfl, ChStart.of h 6 n to pl⟩
  unfold insV
  have H : Hid _ := H0
  obtain ⟨_, c1, _⟩ := H0.cells
  have W1 := (SetOut.refl H0.set).of n
  generalize c.getD n 0 = t at *
  have W2 := (SetOut.refl H0.set).push t (by omega)
  have HW : Hid _ := hw1
  clear h H0 hw1
  go_enter Tryd.func41, Tryd.ntmps41
  go_wp2_with (
    rw [HW.out]
    go_at_call 74
    refine W1.mono ?_
    rintro e w2 ⟨rfl, rfl⟩)
  refine W2.mono ?_
  rintro e w3 ⟨rfl, hout⟩
  have HV : Hid _ := hout
  clear hout W1 W2
  by_cases ht : t = 0
  · subst ht
    go_wp2
    go_ret
    exact ⟨rfl, H.out.only _ (SetOut.only HV.out)⟩
  · have ht' : (t != 0) = true := by simpa using ht
    have HT : Hid _ := ht
    clear ht
    go_wp2
    go_ret
    exact ⟨rfl, H.out.out _ _ _ HV.out⟩
set_option maxHeartbeats 4000000 in
theorem change9 {w : World} {p : Nat} {vs vc : Value} {st c : List Int} (n to pl : Int) (h : SetAt w p vs vc st c) (hl : st.length ≤ 4000) :
    Calls Tryd.prog 41 #[insV 9 n to pl, .pointer (some ⟨p, 0, none⟩)] w fun e w' => ChAns w p vs vc (if st.dropLast.getLast?.getD 0 = st.getLast?.getD 0 ∧ st.dropLast.getLast?.getD 0 ≠ 0 then some (st.dropLast.dropLast ++ [2], c) else none) e w' := by
  obtain ⟨w1, hw1, H0⟩ : ∃ w1, w.alloc (.cells #[.int .i64 9, .int .i64 n, .int .i64 to, .int .i64 pl] 105) = w1 ∧ ChStart w w1 p vs vc st c 9 n to pl := ⟨_, rfl, ChStart.of h 9 n to pl⟩
  unfold insV
  have H : Hid _ := H0
  have W1 := (SetOut.refl H0.set).drew.pop (by omega)
  have W2 : ∀ W, SetOut w1 W p vs vc st.dropLast c → _ := fun W h => h.pop (by simp; omega)
  have W3 : ∀ W, SetOut w1 W p vs vc st.dropLast.dropLast c → _ := fun W h => h.push 2 (by simp; omega)
  generalize hr : st.getLast?.getD 0 = r at *
  generalize hq : st.dropLast.getLast?.getD 0 = q at *
  clear hr hq
  generalize hR : (if q = r ∧ q ≠ 0 then some (st.dropLast.dropLast ++ [2], c) else none) = R
  have HR : Hid _ := hR
  clear hR
  have HW : Hid _ := hw1
  clear h H0 hw1
  go_enter Tryd.func41, Tryd.ntmps41
  go_wp2_with fail
  rw [HW.out]
  go_region_held3 (fun w' => True) (exact trivial)
    (first
      | (go_at_call 72; refine (W2 _ (by assumption)).mono ?_; rintro e w3 ⟨rfl, hout3⟩)
      | (go_at_call 72; refine W1.mono ?_; rintro e w2 ⟨rfl, hout2⟩))
  have HU : Hid _ := hout3
  clear hout2 hout3
  by_cases hq : q = r
  · subst hq
    by_cases h0 : q = 0
    · subst h0
      go_wp2_with (
        go_at_call 70
        refine (W3 _ HU.out).mono ?_
        rintro e w4 ⟨rfl, hout⟩
        have HV : Hid _ := hout
        clear hout)
      go_ret
      rw [← HR.out, if_neg (by simp)]
      exact ⟨rfl, H.out.only _ (SetOut.only HV.out)⟩
    · have h0' : (q != 0) = true := by simpa using h0
      have H0 : Hid _ := h0
      clear h0
      go_wp2_with (
        go_at_call 70
        refine (W3 _ HU.out).mono ?_
        rintro e w4 ⟨rfl, hout⟩
        have HV : Hid _ := hout
        clear hout)
      go_ret
      rw [← HR.out, if_pos ⟨by trivial, H0.out⟩]
      exact ⟨rfl, H.out.out _ _ _ HV.out⟩
  · have hq' : (q == r) = false := by simpa using hq
    have H0 : Hid _ := hq
    clear hq
    go_wp2_with (
      go_at_call 70
      refine (W3 _ HU.out).mono ?_
      rintro e w4 ⟨rfl, hout⟩
      have HV : Hid _ := hout
      clear hout)
    go_ret
    rw [← HR.out, if_neg (fun h => H0.out h.1)]
    exact ⟨rfl, H.out.only _ (SetOut.only HV.out)⟩
end Go.Proofs.YtfkdailfcmnjlaaDoor

namespace Go.Proofs.YtfkdailfcmnjlaaDoor
open Go Go.RowKit
set_option maxRecDepth 100000
attribute [local go_sem ↓] Go.wp_at_zero Go.wp_at_succ

/-- The table of effects. -/
def effL : List Int := [0, 0, 0, 0, 0, 1, 0, 0, 2, 0, 0, 3, 0, 0, 0, 0, 0, 0, 0, 0, 0, 2, 1, 1, 2, 1, 1, 0, 0, 0, 2, 1, 2, 2, 1, 2, 1, 2, 2, 2, 2, 2, 2, 2, 2, 1, 2, 0, 0, 0, 0, 0, 0, 0, 0, 0, 0]
def Ef (w : World) : Prop := ∀ j, j < 57 → w.cell? ⟨0, j, none⟩ = some (.int .i64 (effL.getD j 0))
theorem Ef.pos {w : World} (h : Ef w) : 0 < w.heap.size := World.block_lt_of_cell? w _ (h 0 (by decide))
theorem Ef.below {w w' : World} (h : Ef w) {B : Nat} (hB : 0 < B) (hb : Below B w w') : Ef w' := fun k hk => by rw [hb.cell (p := ⟨0, k, none⟩) hB]; exact h k hk
theorem eff_takes : ∀ op, op < 19 → (effL.getD (op * 3) 0) = (((effL.getD (op * 3) 0).toNat : Nat) : Int) ∧ (effL.getD (op * 3) 0).toNat ≤ 2 := by decide
set_option maxHeartbeats 4000000 in
theorem changeO {w : World} {p : Nat} {vs vc : Value} {st c : List Int} (op : Nat) (n to pl : Int) (hE : Ef w) (h : SetAt w p vs vc st c) (hl : st.length ≤ 4000) (ho : op < 19) (h4 : op ≠ 4) (h5 : op ≠ 5) (h6 : op ≠ 6) (h9 : op ≠ 9) :
    Calls Tryd.prog 41 #[insV op n to pl, .pointer (some ⟨p, 0, none⟩)] w fun e w' => ChAns w p vs vc (onR (effL.getD (op * 3) 0).toNat (effL.getD (op * 3 + 1) 0) (effL.getD (op * 3 + 2) 0) st c) e w' := by
  obtain ⟨w1, hw1, H0⟩ : ∃ w1, w.alloc (.cells #[.int .i64 op, .int .i64 n, .int .i64 to, .int .i64 pl] 105) = w1 ∧ ChStart w w1 p vs vc st c op n to pl := ⟨_, rfl, ChStart.of h op n to pl⟩
  unfold insV
  have H : Hid _ := H0
  obtain ⟨c0, _, _⟩ := H0.cells
  have hE1 : Ef w1 := by rw [← hw1]; exact hE.below hE.pos ((Below.refl _ w).alloc (Nat.le_refl _) _)
  have e0 := hE1 (op * 3) (by omega)
  have e1 := hE1 (op * 3 + 1) (by omega)
  have e2 := hE1 (op * 3 + 2) (by omega)
  obtain ⟨q1, q2⟩ := eff_takes op ho
  rw [q1] at e0
  have W1 := eon_any (effL.getD (op * 3) 0).toNat (effL.getD (op * 3 + 1) 0) (effL.getD (op * 3 + 2) 0) H0.set hl (by omega)
  have W2 := eon_any (effL.getD (op * 3) 0).toNat (effL.getD (op * 3 + 1) 0) (effL.getD (op * 3 + 2) 0) H0.set.drew hl (by omega)
  generalize (effL.getD (op * 3) 0).toNat = k at *
  generalize effL.getD (op * 3 + 1) 0 = t at *
  generalize effL.getD (op * 3 + 2) 0 = o at *
  have HW : Hid _ := hw1
  have b4 : ((op : Int) == 4) = false := by simp; omega
  have b5 : ((op : Int) == 5) = false := by simp; omega
  have b6 : ((op : Int) == 6) = false := by simp; omega
  have b9 : ((op : Int) == 9) = false := by simp; omega
  have hb : (0 : Int) ≤ (op : Int) ∧ (op : Int) < 19 := by omega
  clear h H0 hE hE1 q1 q2 h4 h5 h6 h9
  rw [← hw1] at e0 e1 e2 c0
  clear hw1
  generalize onR k t o st c = R at *
  go_enter Tryd.func41, Tryd.ntmps41
  go_wp2_with fail
  rw [HW.out]
  refine W1.mono ?_
  clear W1 W2 e0 e1 e2 c0
  cases R with
  | none =>
    rintro e w2 ⟨rfl, ho2⟩
    have HU : Hid _ := ho2
    clear ho2
    go_wp2
    go_ret
    exact ⟨rfl, H.out.only _ HU.out⟩
  | some x =>
    rintro e w2 ⟨rfl, ho2⟩
    have HU : Hid _ := ho2
    clear ho2
    go_wp2
    go_ret
    exact ⟨rfl, H.out.out _ _ _ HU.out⟩
/-- What an instruction does to a stack and cells in memory. -/
def changeR (op n : Nat) (st c : List Int) : Option (List Int × List Int) :=
  if op = 4 then some (st ++ [fieldI n], c)
  else if op = 5 then (if st.getLast?.getD 0 = 0 then none else some (st.dropLast, learnL c n (st.getLast?.getD 0)))
  else if op = 6 then (if c.getD n 0 = 0 then none else some (st ++ [c.getD n 0], c))
  else if op = 9 then (if st.dropLast.getLast?.getD 0 = st.getLast?.getD 0 ∧ st.dropLast.getLast?.getD 0 ≠ 0 then some (st.dropLast.dropLast ++ [2], c) else none)
  else onR (effL.getD (op * 3) 0).toNat (effL.getD (op * 3 + 1) 0) (effL.getD (op * 3 + 2) 0) st c
theorem change_any {w : World} {p : Nat} {vs vc : Value} {st c : List Int} (op : Nat) (n to pl : Int) (hE : Ef w) (h : SetAt w p vs vc st c) (hl : st.length ≤ 4000) (hc : c.length ≤ 256) (ho : op < 19) (hn : op = 4 ∨ op = 5 ∨ op = 6 → 0 ≤ n ∧ n ≤ 255) :
    Calls Tryd.prog 41 #[insV op n to pl, .pointer (some ⟨p, 0, none⟩)] w fun e w' => ChAns w p vs vc (changeR op n.toNat st c) e w' := by
  unfold changeR
  by_cases h4 : op = 4
  · subst h4
    obtain ⟨q1, q2⟩ := hn (by omega)
    obtain ⟨m, rfl⟩ : ∃ m : Nat, n = m := ⟨n.toNat, by omega⟩
    rw [if_pos rfl, Int.toNat_natCast]
    exact change4 m to pl h hl (by omega)
  rw [if_neg h4]
  by_cases h5 : op = 5
  · subst h5
    obtain ⟨q1, q2⟩ := hn (by omega)
    obtain ⟨m, rfl⟩ : ∃ m : Nat, n = m := ⟨n.toNat, by omega⟩
    rw [if_pos rfl, Int.toNat_natCast]
    exact change5 m to pl h hl hc (by omega)
  rw [if_neg h5]
  by_cases h6 : op = 6
  · subst h6
    obtain ⟨q1, q2⟩ := hn (by omega)
    obtain ⟨m, rfl⟩ : ∃ m : Nat, n = m := ⟨n.toNat, by omega⟩
    rw [if_pos rfl, Int.toNat_natCast]
    exact change6 m to pl h hl hc (by omega)
  rw [if_neg h6]
  by_cases h9 : op = 9
  · subst h9
    rw [if_pos rfl]
    exact change9 n to pl h hl
  rw [if_neg h9]
  exact changeO op n to pl hE h hl ho h4 h5 h6 h9
end Go.Proofs.YtfkdailfcmnjlaaDoor
