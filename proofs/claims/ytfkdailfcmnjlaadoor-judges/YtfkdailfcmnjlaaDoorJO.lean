/-
  The machine in memory. The machine puts, makes one of two, jumps, ends. The machine makes one of two: the other signs.
-/
import Derived.Test.YtfkdailfcmnjlaaDoorJA
import Derived.Test.YtfkdailfcmnjlaaDoorJB
import Derived.Test.YtfkdailfcmnjlaaDoorJC
import Derived.Test.YtfkdailfcmnjlaaDoorJD
import Derived.Test.YtfkdailfcmnjlaaDoorJE
import Derived.Test.YtfkdailfcmnjlaaDoorJF
import Derived.Test.YtfkdailfcmnjlaaDoorJG
import Derived.Test.YtfkdailfcmnjlaaDoorJH
import Derived.Test.YtfkdailfcmnjlaaDoorJI
import Derived.Test.YtfkdailfcmnjlaaDoorJJ
import Derived.Test.YtfkdailfcmnjlaaDoorJK
import Derived.Test.YtfkdailfcmnjlaaDoorJL
import Derived.Test.YtfkdailfcmnjlaaDoorJM
import Derived.Test.YtfkdailfcmnjlaaDoorJN
set_option linter.unusedVariables false
set_option linter.unusedSimpArgs false
namespace Go.Proofs.YtfkdailfcmnjlaaDoor
open Go Go.RowKit
set_option maxRecDepth 100000
attribute [local go_sem ↓] Go.wp_at_zero Go.wp_at_succ

/-- The machine's state: the stack (the lowest first), the cells, the next instruction, has it ended, the verdict. -/
structure MS where
  st : List Int
  cl : List Int
  next : Int
  ended : Bool
  al : Bool
  ru : Int
  stp : Int
def macC (vs vc : Value) (fl : List Int) (s : MS) : Array Value := #[vs, vc, .int .i64 (fl.getD 0 0), .int .i64 (fl.getD 1 0), .int .i64 (fl.getD 2 0), .int .i64 (fl.getD 3 0), .int .i64 (fl.getD 4 0), .int .i64 (fl.getD 5 0), .int .i64 (fl.getD 6 0), .int .i64 (fl.getD 7 0), .int .i64 (fl.getD 8 0), .int .i64 s.next, .bool s.ended, .bool s.al, .int .i64 s.ru, .int .i64 s.stp]
structure MacAt (w : World) (p : Nat) (vs vc : Value) (fl : List Int) (s : MS) : Prop where
  blk : w.heap[p]? = some (.cells (macC vs vc fl s) 100 (0, 0))
  st : IR w 71 vs s.st
  cl : IR w 71 vc s.cl
  ne : ∀ b, vs.ownBlock = some b → vc.ownBlock ≠ some b
theorem MacAt.lt {w : World} {p : Nat} {vs vc : Value} {fl : List Int} {s : MS} (h : MacAt w p vs vc fl s) {b : Nat} (hb : Foot p vs vc b) : b < w.heap.size := by
  rcases hb with rfl | hb | hb
  · exact lt_of_get h.blk
  · exact (h.st.lt b hb).2
  · exact (h.cl.lt b hb).2
theorem MacAt.only {w w' : World} {p : Nat} {vs vc : Value} {fl : List Int} {s : MS} (h : MacAt w p vs vc fl s) {F : Nat → Prop} (ho : Only F w w') (hF : ∀ b, Foot p vs vc b → ¬ F b) : MacAt w' p vs vc fl s :=
  ⟨(ho.block p (lt_of_get h.blk) (hF p (.inl rfl))).trans h.blk, h.st.only ho (fun g hg => hF g (.inr (.inl hg))), h.cl.only ho (fun g hg => hF g (.inr (.inr hg))), h.ne⟩
theorem MacAt.drew {w : World} {p : Nat} {vs vc : Value} {fl : List Int} {s : MS} (h : MacAt w p vs vc fl s) : MacAt w.drew p vs vc fl s := ⟨h.blk, h.st, h.cl, h.ne⟩
def MOut (w w' : World) (p : Nat) (vs vc : Value) (fl : List Int) (s : MS) : Prop :=
  ∃ vs', MacAt w' p vs' vc fl s ∧ Only (Foot p vs vc) w w' ∧ ∀ b, Foot p vs' vc b → Foot p vs vc b ∨ w.heap.size ≤ b
theorem MOut.refl {w : World} {p : Nat} {vs vc : Value} {fl : List Int} {s : MS} (h : MacAt w p vs vc fl s) : MOut w w p vs vc fl s := ⟨vs, h, Only.refl _ _, fun _ hb => .inl hb⟩
theorem MOut.then {w w1 w2 : World} {p : Nat} {vs vc vs1 : Value} {fl : List Int} {s2 : MS} (ho : Only (Foot p vs vc) w w1) (hf : ∀ b, Foot p vs1 vc b → Foot p vs vc b ∨ w.heap.size ≤ b) (h2 : MOut w1 w2 p vs1 vc fl s2) : MOut w w2 p vs vc fl s2 := by
  obtain ⟨vs2, hs, ho2, hf2⟩ := h2
  refine ⟨vs2, hs, ho.trans ho2 (fun _ _ h => h) (fun i hi h => ?_), fun b hb => ?_⟩
  · rcases hf i h with h | h
    · exact h
    · omega
  · rcases hf2 b hb with h | h
    · exact hf b h
    · right; have := ho.size; omega
theorem MOut.only {w w' : World} {p : Nat} {vs vc : Value} {fl : List Int} {s : MS} (h : MOut w w' p vs vc fl s) : Only (Foot p vs vc) w w' := by
  obtain ⟨_, _, h, _⟩ := h; exact h
theorem MOut.drew {w w' : World} {p : Nat} {vs vc : Value} {fl : List Int} {s : MS} (h : MOut w w' p vs vc fl s) : MOut w w'.drew p vs vc fl s := by
  obtain ⟨vs', h1, h2, h3⟩ := h
  exact ⟨vs', h1.drew, h2.drew, h3⟩
theorem mty_ne : 100 ≠ 71 := by decide
theorem MOut.push {w w1 : World} {p : Nat} {vs vc : Value} {fl : List Int} {s : MS} (h : MOut w w1 p vs vc fl s) (x : Int) (hl : s.st.length ≤ 5000) :
    Calls Tryd.prog 78 #[.pointer (some ⟨p, 0, none⟩), .int .i64 x] w1 fun e w' => e = .returned (.tuple #[]) ∧ MOut w w' p vs vc fl { s with st := s.st ++ [x] } := by
  obtain ⟨vs1, h, ho1, hf1⟩ := h
  refine (vpush_any x h.blk (v := vs1) rfl h.st mty_ne hl).mono ?_
  rintro e w' ⟨rfl, v', hb, hi, ho, hf⟩
  refine ⟨rfl, MOut.then ho1 hf1 ?_⟩
  have hvp := h.cl.ne h.blk mty_ne
  refine ⟨v', ⟨hb, hi, h.cl.only ho (fun g hg hn => ?_), fun b h1 h2 => ?_⟩, ho.weak (fun i _ hi => ?_), fun b hb => ?_⟩
  · rcases hn with rfl | hn
    · exact hvp hg
    · exact h.ne g hn hg
  · rcases hf b h1 with h3 | h3
    · exact h.ne b h3 h2
    · have := (h.cl.lt b h2).2; omega
  · rcases hi with rfl | hi
    · exact .inl rfl
    · exact .inr (.inl hi)
  · rcases hb with rfl | hb | hb
    · exact .inl (.inl rfl)
    · rcases hf b hb with h3 | h3
      · exact .inl (.inr (.inl h3))
      · exact .inr h3
    · exact .inl (.inr (.inr hb))
theorem MOut.pop {w w1 : World} {p : Nat} {vs vc : Value} {fl : List Int} {s : MS} (h : MOut w w1 p vs vc fl s) (hl : s.st.length ≤ 5000) :
    Calls Tryd.prog 79 #[.pointer (some ⟨p, 0, none⟩)] w1 fun e w' => e = .returned (.int .i64 (s.st.getLast?.getD 0)) ∧ MOut w w' p vs vc fl { s with st := s.st.dropLast } := by
  obtain ⟨vs1, h, ho1, hf1⟩ := h
  refine (vpop_any h.blk (v := vs1) rfl h.st mty_ne hl).mono ?_
  rintro e w' ⟨rfl, v', hb, hi, ho, hf⟩
  refine ⟨rfl, MOut.then ho1 hf1 ?_⟩
  have hvp := h.cl.ne h.blk mty_ne
  refine ⟨v', ⟨hb, hi, h.cl.only ho (fun g hg hn => ?_), fun b h1 h2 => ?_⟩, ho.weak (fun i _ hi => .inl hi), fun b hb => ?_⟩
  · subst hn; exact hvp hg
  · rw [hf] at h1; exact h.ne b h1 h2
  · unfold Foot at hb ⊢
    rw [hf] at hb; exact .inl hb
/-- A machine's number or truth is written. -/
theorem MOut.put {w w1 : World} {p : Nat} {vs vc : Value} {fl : List Int} {s s' : MS} (h : MOut w w1 p vs vc fl s) (o : Nat) (v : Value) (hs : ∀ vs vc, (macC vs vc fl s).setIfInBounds o v = macC vs vc fl s') (h1 : s'.st = s.st) (h2 : s'.cl = s.cl) : MOut w (w1.setCell ⟨p, o, none⟩ v) p vs vc fl s' := by
  obtain ⟨vs1, h, ho1, hf1⟩ := h
  refine MOut.then ho1 hf1 ?_
  have ho : Only (fun b => b = p) w1 (w1.setCell ⟨p, o, none⟩ v) := (Only.refl (fun b => b = p) w1).setCell (.inl rfl) _
  refine ⟨vs1, ⟨by rw [heap_setCell_same w1 p o _ _ _ h.blk, hs], ?_, ?_, h.ne⟩, ho.weak (fun i _ hi => .inl hi), fun b hb => .inl hb⟩
  · rw [h1]; exact h.st.only ho (fun g hg e => h.st.ne h.blk mty_ne (by rw [← e]; exact hg))
  · rw [h2]; exact h.cl.only ho (fun g hg e => h.cl.ne h.blk mty_ne (by rw [← e]; exact hg))
theorem MOut.cells {w w1 : World} {p : Nat} {vs vc : Value} {fl : List Int} {s : MS} (h : MOut w w1 p vs vc fl s) : w1.cell? ⟨p, 11, none⟩ = some (.int .i64 s.next) ∧ w1.cell? ⟨p, 12, none⟩ = some (.bool s.ended) ∧ w1.cell? ⟨p, 13, none⟩ = some (.bool s.al) ∧ w1.cell? ⟨p, 14, none⟩ = some (.int .i64 s.ru) ∧ w1.cell? ⟨p, 15, none⟩ = some (.int .i64 s.stp) ∧ ∀ o, w1.frozen? ⟨p, o, none⟩ = false := by
  obtain ⟨vs1, h, _, _⟩ := h
  have hc := fun j => cell_of_row w1 p j _ _ _ h.blk
  exact ⟨hc 11, hc 12, hc 13, hc 14, hc 15, fun o => by simp [World.frozen?, h.blk]⟩
/-- Where the machine does an instruction: its block is laid. -/
structure MSt (w w1 : World) (p : Nat) (vs vc : Value) (fl : List Int) (s : MS) (o : Obj) : Prop where
  out0 : MOut w1 w1 p vs vc fl s
  far : ∀ b, Foot p vs vc b → b < w.heap.size
  blk : w1.heap[w.heap.size]? = some o
  siz : w.heap.size < w1.heap.size
  out : ∀ w' s, MOut w1 w' p vs vc fl s → MOut w w' p vs vc fl s
theorem MSt.of {w : World} {p : Nat} {vs vc : Value} {fl : List Int} {s : MS} (h : MacAt w p vs vc fl s) (o : Obj) : MSt w (w.alloc o) p vs vc fl s o :=
  ⟨MOut.refl (h.only ((Only.refl (fun _ => False) w).alloc _) (fun _ _ h => h)), fun b hb => h.lt hb, heap_alloc_new w _, by rw [World.size_alloc]; omega, fun _ _ h => MOut.then ((Only.refl _ w).alloc o) (fun _ hb => .inl hb) h⟩
theorem MSt.after {w w1 w2 : World} {p : Nat} {vs vc : Value} {fl : List Int} {s s2 : MS} {op : Nat} {n tj pl : Int} (h : MSt w w1 p vs vc fl s (insO op n tj pl)) (ho : MOut w1 w2 p vs vc fl s2) : w2.cell? ⟨w.heap.size, 0, none⟩ = some (.int .i64 op) ∧ w2.cell? ⟨w.heap.size, 1, none⟩ = some (.int .i64 n) ∧ w2.cell? ⟨w.heap.size, 2, none⟩ = some (.int .i64 tj) ∧ w2.cell? ⟨w.heap.size, 3, none⟩ = some (.int .i64 pl) := by
  have hb : w2.heap[w.heap.size]? = _ := (ho.only.block _ h.siz (fun hf => by have := h.far _ hf; omega)).trans h.blk
  have hc := fun j => cell_of_row w2 _ j _ _ _ hb
  exact ⟨hc 0, hc 1, hc 2, hc 3⟩
set_option maxHeartbeats 4000000 in
theorem mlay_any {w : World} {p : Nat} {vs vc : Value} {fl : List Int} {s : MS} (op : Nat) (n tj pl : Int) (h : MacAt w p vs vc fl s) (hl : s.st.length ≤ 4000) :
    Calls Tryd.prog 51 #[.pointer (some ⟨p, 0, none⟩), insV op n tj pl] w fun e w' => e = .returned (.tuple #[]) ∧ MOut w w' p vs vc fl { s with st := s.st ++ [n] } := by
  obtain ⟨w1, hw1, H0⟩ : ∃ w1, w.alloc (.cells #[.int .i64 op, .int .i64 n, .int .i64 tj, .int .i64 pl] 105) = w1 ∧ MSt w w1 p vs vc fl s (insO op n tj pl) := ⟨_, rfl, MSt.of h _⟩
  unfold insV
  have H : Hid _ := H0
  obtain ⟨c0, c1, c2, c3⟩ := H0.after H0.out0
  have W1 := H0.out0.drew.push n (by omega)
  have HW : Hid _ := hw1
  have HK : Hid (∀ W' s', MOut w1 W' p vs vc fl s' → W'.cell? ⟨w.heap.size, 1, none⟩ = some (.int .i64 n)) := fun W' _ h => (H0.after h).2.1
  clear h H0 hw1
  go_enter Tryd.func51, Tryd.ntmps51
  go_wp2_with fail
  rw [HW.out]
  go_region_held3 (fun W => W.cell? ⟨w.heap.size, 1, none⟩ = some (.int .i64 n)) (first | with_reducible exact HK.out _ _ (by assumption) | with_reducible assumption | go_keep)
    (first | (go_at_call 78; refine W1.mono ?_; rintro e w2 ⟨rfl, hout⟩))
  rename_i hHeld
  have HU : Hid _ := hout
  clear hHeld hout
  go_end0
  exact ⟨rfl, H.out.out _ _ HU.out⟩
theorem MOut.field {w w1 : World} {p : Nat} {vs vc : Value} {fl : List Int} {s : MS} (h : MOut w w1 p vs vc fl s) {n : Nat} (hn : n ≤ 8) : w1.cell? ⟨p, 2 + n, none⟩ = some (.int .i64 (fl.getD n 0)) := by
  obtain ⟨vs1, h, _, _⟩ := h
  have hc := fun j => cell_of_row w1 p j _ _ _ h.blk
  have e : n = 0 ∨ n = 1 ∨ n = 2 ∨ n = 3 ∨ n = 4 ∨ n = 5 ∨ n = 6 ∨ n = 7 ∨ n = 8 := by omega
  rcases e with rfl | rfl | rfl | rfl | rfl | rfl | rfl | rfl | rfl
  · exact hc 2
  · exact hc 3
  · exact hc 4
  · exact hc 5
  · exact hc 6
  · exact hc 7
  · exact hc 8
  · exact hc 9
  · exact hc 10
set_option maxHeartbeats 4000000 in
theorem mfield_any {w : World} {p : Nat} {vs vc : Value} {fl : List Int} {s : MS} (op n : Nat) (tj pl : Int) (h : MacAt w p vs vc fl s) (hl : s.st.length ≤ 4000) (hn : n ≤ 8) :
    Calls Tryd.prog 52 #[.pointer (some ⟨p, 0, none⟩), insV op n tj pl] w fun e w' => e = .returned (.tuple #[]) ∧ MOut w w' p vs vc fl { s with st := s.st ++ [fl.getD n 0] } := by
  obtain ⟨w1, hw1, H0⟩ : ∃ w1, w.alloc (.cells #[.int .i64 op, .int .i64 n, .int .i64 tj, .int .i64 pl] 105) = w1 ∧ MSt w w1 p vs vc fl s (insO op n tj pl) := ⟨_, rfl, MSt.of h _⟩
  unfold insV
  have H : Hid _ := H0
  have W1 := H0.out0.drew.push (fl.getD n 0) (by omega)
  have HW : Hid _ := hw1
  have HK : Hid (∀ W' s', MOut w1 W' p vs vc fl s' → (W'.cell? ⟨w.heap.size, 1, none⟩ = some (.int .i64 n) ∧ W'.cell? ⟨p, 2 + n, none⟩ = some (.int .i64 (fl.getD n 0)))) := fun W' _ h => ⟨(H0.after h).2.1, h.field hn⟩
  have hS0 := HK.out _ _ H0.out0
  have hnb : (0 : Int) ≤ (n : Int) ∧ (n : Int) < 9 := by omega
  generalize fl.getD n 0 = x at *
  clear h H0 hw1
  go_enter Tryd.func52, Tryd.ntmps52
  go_wp2_with fail
  rw [HW.out]
  go_region_held3 (fun W => W.cell? ⟨w.heap.size, 1, none⟩ = some (.int .i64 n) ∧ W.cell? ⟨p, 2 + n, none⟩ = some (.int .i64 x)) (first | with_reducible exact HK.out _ _ (by assumption) | with_reducible assumption | go_keep)
    (first | (go_at_call 78; refine W1.mono ?_; rintro e w2 ⟨rfl, hout⟩))
  rename_i hHeld
  have HU : Hid _ := hout
  clear hHeld hout
  go_end0
  exact ⟨rfl, H.out.out _ _ HU.out⟩
set_option maxHeartbeats 4000000 in
theorem mget_any {w : World} {p : Nat} {vs vc : Value} {fl : List Int} {s : MS} (op n : Nat) (tj pl : Int) (h : MacAt w p vs vc fl s) (hl : s.st.length ≤ 4000) (hn : n < s.cl.length) (hc : s.cl.length ≤ 300) :
    Calls Tryd.prog 54 #[.pointer (some ⟨p, 0, none⟩), insV op n tj pl] w fun e w' => e = .returned (.tuple #[]) ∧ MOut w w' p vs vc fl { s with st := s.st ++ [s.cl.getD n 0] } := by
  obtain ⟨w1, hw1, H0⟩ : ∃ w1, w.alloc (.cells #[.int .i64 op, .int .i64 n, .int .i64 tj, .int .i64 pl] 105) = w1 ∧ MSt w w1 p vs vc fl s (insO op n tj pl) := ⟨_, rfl, MSt.of h _⟩
  unfold insV
  have H : Hid _ := H0
  have W1 := H0.out0.drew.push (s.cl.getD n 0) (by omega)
  have hm1 : MacAt w1 p vs vc fl s := by rw [← hw1]; exact h.only ((Only.refl (fun _ => False) w).alloc _) (fun _ _ h => h)
  obtain ⟨g, cap, rfl, hg⟩ := hm1.cl.form (by omega)
  have hcell := hm1.cl.cell hn
  have hpc : w1.cell? ⟨p, 1, none⟩ = some (.slice (some ⟨g, 0, none⟩) s.cl.length cap) := by rw [cell_of_row w1 p 1 _ _ _ hm1.blk]; rfl
  obtain ⟨c0, c1, c2, c3⟩ := H0.after H0.out0
  have HW : Hid _ := hw1
  have hnb : (0 : Int) ≤ (n : Int) ∧ (n : Int) < (s.cl.length : Int) := by omega
  have HK : Hid (∀ W', MOut w1 W' p vs (.slice (some ⟨g, 0, none⟩) s.cl.length cap) fl { s with st := s.st ++ [s.cl.getD n 0] } → (W'.cell? ⟨w.heap.size, 1, none⟩ = some (.int .i64 n) ∧ W'.cell? ⟨p, 1, none⟩ = some (.slice (some ⟨g, 0, none⟩) s.cl.length cap) ∧ W'.cell? ⟨g, n, none⟩ = some (.int .i64 (s.cl.getD n 0)))) := fun W' ho => by
    refine ⟨(H0.after ho).2.1, ?_⟩
    obtain ⟨vs', hm, _, _⟩ := ho
    exact ⟨by rw [cell_of_row W' p 1 _ _ _ hm.blk]; rfl, hm.cl.cell hn⟩
  have hS0 : w1.cell? ⟨w.heap.size, 1, none⟩ = some (.int .i64 n) ∧ w1.cell? ⟨p, 1, none⟩ = some (.slice (some ⟨g, 0, none⟩) s.cl.length cap) ∧ w1.cell? ⟨g, n, none⟩ = some (.int .i64 (s.cl.getD n 0)) := ⟨c1, hpc, hcell⟩
  generalize s.cl.getD n 0 = x at *
  clear h H0 hw1 hm1
  go_enter Tryd.func54, Tryd.ntmps54
  go_wp2_with fail
  rw [HW.out]
  go_region_held3 (fun W => W.cell? ⟨w.heap.size, 1, none⟩ = some (.int .i64 n) ∧ W.cell? ⟨p, 1, none⟩ = some (.slice (some ⟨g, 0, none⟩) s.cl.length cap) ∧ W.cell? ⟨g, n, none⟩ = some (.int .i64 x)) (first | with_reducible exact HK.out _ (by assumption) | with_reducible assumption | go_keep)
    (first | (go_at_call 78; refine W1.mono ?_; rintro e w2 ⟨rfl, hout⟩))
  rename_i hHeld
  have HU : Hid _ := hout
  clear hHeld hout
  go_end0
  exact ⟨rfl, H.out.out _ _ HU.out⟩
end Go.Proofs.YtfkdailfcmnjlaaDoor

namespace Go.Proofs.YtfkdailfcmnjlaaDoor
open Go Go.RowKit
set_option maxRecDepth 100000
attribute [local go_sem ↓] Go.wp_at_zero Go.wp_at_succ

set_option maxHeartbeats 4000000 in
theorem mput_any {w : World} {p : Nat} {vs vc : Value} {fl : List Int} {s : MS} (op n : Nat) (tj pl : Int) (h : MacAt w p vs vc fl s) (hl : s.st.length ≤ 4000) (hn : n < s.cl.length) (hc : s.cl.length ≤ 300) :
    Calls Tryd.prog 53 #[.pointer (some ⟨p, 0, none⟩), insV op n tj pl] w fun e w' => e = .returned (.tuple #[]) ∧ MOut w w' p vs vc fl { s with st := s.st.dropLast, cl := s.cl.set n (s.st.getLast?.getD 0) } := by
  obtain ⟨w1, hw1, H0⟩ : ∃ w1, w.alloc (.cells #[.int .i64 op, .int .i64 n, .int .i64 tj, .int .i64 pl] 105) = w1 ∧ MSt w w1 p vs vc fl s (insO op n tj pl) := ⟨_, rfl, MSt.of h _⟩
  unfold insV
  have H : Hid _ := H0
  have W1 := H0.out0.drew.pop (by omega)
  have hm1 : MacAt w1 p vs vc fl s := by rw [← hw1]; exact h.only ((Only.refl (fun _ => False) w).alloc _) (fun _ _ h => h)
  obtain ⟨g, cap, rfl, hg⟩ := hm1.cl.form (by omega)
  have hpc : w1.cell? ⟨p, 1, none⟩ = some (.slice (some ⟨g, 0, none⟩) s.cl.length cap) := by rw [cell_of_row w1 p 1 _ _ _ hm1.blk]; rfl
  obtain ⟨c0, c1, c2, c3⟩ := H0.after H0.out0
  have hgp : g ≠ p := fun e => hm1.cl.ne hm1.blk mty_ne (by rw [e]; rfl)
  have hgw : g ≠ w.heap.size := fun e => by have := H0.far g (.inr (.inr rfl)); omega
  have HW : Hid _ := hw1
  have hnb : (0 : Int) ≤ (n : Int) ∧ (n : Int) < (s.cl.length : Int) := by omega
  generalize hx : s.st.getLast?.getD 0 = x at *
  have HK : Hid (∀ W', MOut w1 W' p vs (.slice (some ⟨g, 0, none⟩) s.cl.length cap) fl { s with st := s.st.dropLast } → ((W'.cell? ⟨w.heap.size, 1, none⟩ = some (.int .i64 n) ∧ W'.cell? ⟨p, 1, none⟩ = some (.slice (some ⟨g, 0, none⟩) s.cl.length cap)) ∧ W'.cell? ⟨g, n, none⟩ = some (.int .i64 (s.cl.getD n 0)) ∧ W'.frozen? ⟨g, n, none⟩ = false ∧ MOut w1 (W'.setCell ⟨g, n, none⟩ (.int .i64 x)) p vs (.slice (some ⟨g, 0, none⟩) s.cl.length cap) fl { s with st := s.st.dropLast, cl := s.cl.set n x })) := fun W' ho => by
    have ha := (H0.after ho).2.1
    obtain ⟨vs', hm, ho2, hf⟩ := ho
    refine ⟨⟨ha, by rw [cell_of_row W' p 1 _ _ _ hm.blk]; rfl⟩, hm.cl.cell hn, hm.cl.frz n, MOut.then ho2 hf ?_⟩
    have hos : Only (fun b => b = g) W' (W'.setCell ⟨g, n, none⟩ (.int .i64 x)) := (Only.refl (fun b => b = g) W').setCell (.inl rfl) _
    refine ⟨vs', ⟨(hos.block p (lt_of_get hm.blk) (fun e => hgp e.symm)).trans hm.blk, hm.st.only hos (fun b hb e => hm.ne b hb (by rw [e]; rfl)), hm.cl.set hn x, hm.ne⟩, hos.weak (fun i _ hi => .inr (.inr (by rw [hi]; rfl))), fun b hb => .inl hb⟩
  have KS : Hid (∀ (W : World) (v : Value), (W.cell? ⟨w.heap.size, 1, none⟩ = some (.int .i64 n) ∧ W.cell? ⟨p, 1, none⟩ = some (.slice (some ⟨g, 0, none⟩) s.cl.length cap)) → ((W.setCell ⟨g, n, none⟩ v).cell? ⟨w.heap.size, 1, none⟩ = some (.int .i64 n) ∧ (W.setCell ⟨g, n, none⟩ v).cell? ⟨p, 1, none⟩ = some (.slice (some ⟨g, 0, none⟩) s.cl.length cap))) := fun W v hS => ⟨by rw [World.cell?_setCell_far _ _ _ _ (by simpa using hgw)]; exact hS.1, by rw [World.cell?_setCell_far _ _ _ _ (by simpa using hgp)]; exact hS.2⟩
  have hS0 : w1.cell? ⟨w.heap.size, 1, none⟩ = some (.int .i64 n) ∧ w1.cell? ⟨p, 1, none⟩ = some (.slice (some ⟨g, 0, none⟩) s.cl.length cap) := ⟨c1, hpc⟩
  clear h H0 hw1 hm1 hx
  go_enter Tryd.func53, Tryd.ntmps53
  go_wp2_with fail
  rw [HW.out]
  go_region_held3 (fun W => W.cell? ⟨w.heap.size, 1, none⟩ = some (.int .i64 n) ∧ W.cell? ⟨p, 1, none⟩ = some (.slice (some ⟨g, 0, none⟩) s.cl.length cap)) (first | with_reducible exact KS.out _ _ (by assumption) | with_reducible exact And.left (HK.out _ (by assumption)) | with_reducible assumption | go_keep)
    (first | (go_at_call 79; refine W1.mono ?_; rintro e w2 ⟨rfl, hout⟩; obtain ⟨hk0, hk1, hk2, hk3⟩ := HK.out _ hout; have HU : Hid _ := hk3; clear hk3))
  rename_i hHeld
  clear hHeld hout hk0 hk1 hk2
  go_end0
  exact ⟨rfl, H.out.out _ _ HU.out⟩
set_option maxHeartbeats 4000000 in
theorem twoAdd_any {w : World} {p : Nat} {vs vc : Value} {fl : List Int} {s : MS} {l r x : Int} (h : MOut w w p vs vc fl s) (hl : s.st.length ≤ 4000) (hr : s.st.getLast?.getD 0 = r) (hl2 : s.st.dropLast.getLast?.getD 0 = l) (hf : ∀ w, Calls Tryd.prog 81 #[.int .i64 l, .int .i64 r] w fun e w' => e = .returned (.int .i64 x) ∧ w' = w) :
    Calls Tryd.prog 80 #[.pointer (some ⟨p, 0, none⟩), fnV 81] w fun e w' => e = .returned (.tuple #[]) ∧ MOut w w' p vs vc fl { s with st := s.st.dropLast.dropLast ++ [x] } := by
  unfold fnV
  have W1 := h.drew.pop (by omega)
  rw [hr] at W1
  have W2 : ∀ W, MOut w W p vs vc fl { s with st := s.st.dropLast } → Calls Tryd.prog 79 #[.pointer (some ⟨p, 0, none⟩)] W fun e w' => e = .returned (.int .i64 l) ∧ MOut w w' p vs vc fl { s with st := s.st.dropLast.dropLast } := fun W h => by
    have := h.pop (by simp; omega)
    simp only [hl2] at this; exact this
  have W3 : ∀ W, MOut w W p vs vc fl { s with st := s.st.dropLast.dropLast } → Calls Tryd.prog 78 #[.pointer (some ⟨p, 0, none⟩), .int .i64 x] W fun e w' => e = .returned (.tuple #[]) ∧ MOut w w' p vs vc fl { s with st := s.st.dropLast.dropLast ++ [x] } := fun W h => h.push x (by simp; omega)
  clear h hr hl2
  go_enter Tryd.func80, Tryd.ntmps80
  go_wp2_with fail
  go_region_held3 (fun w' => True) (exact trivial)
    (first
      | (go_at_call 79; refine (W2 _ (by assumption)).mono ?_; rintro e w3 ⟨rfl, hout3⟩)
      | (go_at_call 79; refine W1.mono ?_; rintro e w2 ⟨rfl, hout2⟩))
  have HU : Hid _ := hout3
  clear hout2 hout3
  go_wp2_with fail
  first
    | (refine (hf _).mono ?_; rintro e w4 ⟨rfl, rfl⟩; go_wp2_with fail; refine (W3 _ HU.out).mono ?_; rintro e w5 ⟨rfl, hout⟩; have HV : Hid _ := hout; clear hout)
    | (go_region_held3 (fun w' => True) (exact trivial)
        (first
          | (go_at_call 81; refine (hf _).mono ?_; rintro e w4 ⟨rfl, rfl⟩)
          | (go_at_call 78; refine (W3 _ (MOut.drew HU.out)).mono ?_; rintro e w5 ⟨rfl, hout⟩; have HV : Hid _ := hout; clear hout)))
  go_wp2
  go_end0
  exact ⟨rfl, HV.out⟩
set_option maxHeartbeats 4000000 in
theorem mAdd_any {w : World} {p : Nat} {vs vc : Value} {fl : List Int} {s : MS} {l r x : Int} (op : Nat) (n tj pl : Int) (h : MacAt w p vs vc fl s) (hl : s.st.length ≤ 4000) (hr : s.st.getLast?.getD 0 = r) (hl2 : s.st.dropLast.getLast?.getD 0 = l) (hf : ∀ w, Calls Tryd.prog 81 #[.int .i64 l, .int .i64 r] w fun e w' => e = .returned (.int .i64 x) ∧ w' = w) :
    Calls Tryd.prog 55 #[.pointer (some ⟨p, 0, none⟩), insV op n tj pl] w fun e w' => e = .returned (.tuple #[]) ∧ MOut w w' p vs vc fl { s with st := s.st.dropLast.dropLast ++ [x] } := by
  obtain ⟨w1, hw1, H0⟩ : ∃ w1, w.alloc (.cells #[.int .i64 op, .int .i64 n, .int .i64 tj, .int .i64 pl] 105) = w1 ∧ MSt w w1 p vs vc fl s (insO op n tj pl) := ⟨_, rfl, MSt.of h _⟩
  unfold insV
  have H : Hid _ := H0
  have W1 := twoAdd_any H0.out0 hl hr hl2 hf
  unfold fnV at W1
  have HW : Hid _ := hw1
  clear h H0 hw1 hf
  go_enter Tryd.func55, Tryd.ntmps55
  go_wp2_with fail
  rw [HW.out]
  refine W1.mono ?_
  rintro e w2 ⟨rfl, hout⟩
  have HU : Hid _ := hout
  clear hout W1
  go_wp2
  go_end0
  exact ⟨rfl, H.out.out _ _ HU.out⟩
end Go.Proofs.YtfkdailfcmnjlaaDoor

namespace Go.Proofs.YtfkdailfcmnjlaaDoor
open Go Go.RowKit
set_option maxRecDepth 100000
attribute [local go_sem ↓] Go.wp_at_zero Go.wp_at_succ

set_option maxHeartbeats 4000000 in
theorem twoSub_any {w : World} {p : Nat} {vs vc : Value} {fl : List Int} {s : MS} {l r x : Int} (h : MOut w w p vs vc fl s) (hl : s.st.length ≤ 4000) (hr : s.st.getLast?.getD 0 = r) (hl2 : s.st.dropLast.getLast?.getD 0 = l) (hf : ∀ w, Calls Tryd.prog 82 #[.int .i64 l, .int .i64 r] w fun e w' => e = .returned (.int .i64 x) ∧ w' = w) :
    Calls Tryd.prog 80 #[.pointer (some ⟨p, 0, none⟩), fnV 82] w fun e w' => e = .returned (.tuple #[]) ∧ MOut w w' p vs vc fl { s with st := s.st.dropLast.dropLast ++ [x] } := by
  unfold fnV
  have W1 := h.drew.pop (by omega)
  rw [hr] at W1
  have W2 : ∀ W, MOut w W p vs vc fl { s with st := s.st.dropLast } → Calls Tryd.prog 79 #[.pointer (some ⟨p, 0, none⟩)] W fun e w' => e = .returned (.int .i64 l) ∧ MOut w w' p vs vc fl { s with st := s.st.dropLast.dropLast } := fun W h => by
    have := h.pop (by simp; omega)
    simp only [hl2] at this; exact this
  have W3 : ∀ W, MOut w W p vs vc fl { s with st := s.st.dropLast.dropLast } → Calls Tryd.prog 78 #[.pointer (some ⟨p, 0, none⟩), .int .i64 x] W fun e w' => e = .returned (.tuple #[]) ∧ MOut w w' p vs vc fl { s with st := s.st.dropLast.dropLast ++ [x] } := fun W h => h.push x (by simp; omega)
  clear h hr hl2
  go_enter Tryd.func80, Tryd.ntmps80
  go_wp2_with fail
  go_region_held3 (fun w' => True) (exact trivial)
    (first
      | (go_at_call 79; refine (W2 _ (by assumption)).mono ?_; rintro e w3 ⟨rfl, hout3⟩)
      | (go_at_call 79; refine W1.mono ?_; rintro e w2 ⟨rfl, hout2⟩))
  have HU : Hid _ := hout3
  clear hout2 hout3
  go_wp2_with fail
  first
    | (refine (hf _).mono ?_; rintro e w4 ⟨rfl, rfl⟩; go_wp2_with fail; refine (W3 _ HU.out).mono ?_; rintro e w5 ⟨rfl, hout⟩; have HV : Hid _ := hout; clear hout)
    | (go_region_held3 (fun w' => True) (exact trivial)
        (first
          | (go_at_call 82; refine (hf _).mono ?_; rintro e w4 ⟨rfl, rfl⟩)
          | (go_at_call 78; refine (W3 _ (MOut.drew HU.out)).mono ?_; rintro e w5 ⟨rfl, hout⟩; have HV : Hid _ := hout; clear hout)))
  go_wp2
  go_end0
  exact ⟨rfl, HV.out⟩
set_option maxHeartbeats 4000000 in
theorem mSub_any {w : World} {p : Nat} {vs vc : Value} {fl : List Int} {s : MS} {l r x : Int} (op : Nat) (n tj pl : Int) (h : MacAt w p vs vc fl s) (hl : s.st.length ≤ 4000) (hr : s.st.getLast?.getD 0 = r) (hl2 : s.st.dropLast.getLast?.getD 0 = l) (hf : ∀ w, Calls Tryd.prog 82 #[.int .i64 l, .int .i64 r] w fun e w' => e = .returned (.int .i64 x) ∧ w' = w) :
    Calls Tryd.prog 56 #[.pointer (some ⟨p, 0, none⟩), insV op n tj pl] w fun e w' => e = .returned (.tuple #[]) ∧ MOut w w' p vs vc fl { s with st := s.st.dropLast.dropLast ++ [x] } := by
  obtain ⟨w1, hw1, H0⟩ : ∃ w1, w.alloc (.cells #[.int .i64 op, .int .i64 n, .int .i64 tj, .int .i64 pl] 105) = w1 ∧ MSt w w1 p vs vc fl s (insO op n tj pl) := ⟨_, rfl, MSt.of h _⟩
  unfold insV
  have H : Hid _ := H0
  have W1 := twoSub_any H0.out0 hl hr hl2 hf
  unfold fnV at W1
  have HW : Hid _ := hw1
  clear h H0 hw1 hf
  go_enter Tryd.func56, Tryd.ntmps56
  go_wp2_with fail
  rw [HW.out]
  refine W1.mono ?_
  rintro e w2 ⟨rfl, hout⟩
  have HU : Hid _ := hout
  clear hout W1
  go_wp2
  go_end0
  exact ⟨rfl, H.out.out _ _ HU.out⟩
set_option maxHeartbeats 4000000 in
theorem twoEqual_any {w : World} {p : Nat} {vs vc : Value} {fl : List Int} {s : MS} {l r x : Int} (h : MOut w w p vs vc fl s) (hl : s.st.length ≤ 4000) (hr : s.st.getLast?.getD 0 = r) (hl2 : s.st.dropLast.getLast?.getD 0 = l) (hf : ∀ w, Calls Tryd.prog 83 #[.int .i64 l, .int .i64 r] w fun e w' => e = .returned (.int .i64 x) ∧ w' = w) :
    Calls Tryd.prog 80 #[.pointer (some ⟨p, 0, none⟩), fnV 83] w fun e w' => e = .returned (.tuple #[]) ∧ MOut w w' p vs vc fl { s with st := s.st.dropLast.dropLast ++ [x] } := by
  unfold fnV
  have W1 := h.drew.pop (by omega)
  rw [hr] at W1
  have W2 : ∀ W, MOut w W p vs vc fl { s with st := s.st.dropLast } → Calls Tryd.prog 79 #[.pointer (some ⟨p, 0, none⟩)] W fun e w' => e = .returned (.int .i64 l) ∧ MOut w w' p vs vc fl { s with st := s.st.dropLast.dropLast } := fun W h => by
    have := h.pop (by simp; omega)
    simp only [hl2] at this; exact this
  have W3 : ∀ W, MOut w W p vs vc fl { s with st := s.st.dropLast.dropLast } → Calls Tryd.prog 78 #[.pointer (some ⟨p, 0, none⟩), .int .i64 x] W fun e w' => e = .returned (.tuple #[]) ∧ MOut w w' p vs vc fl { s with st := s.st.dropLast.dropLast ++ [x] } := fun W h => h.push x (by simp; omega)
  clear h hr hl2
  go_enter Tryd.func80, Tryd.ntmps80
  go_wp2_with fail
  go_region_held3 (fun w' => True) (exact trivial)
    (first
      | (go_at_call 79; refine (W2 _ (by assumption)).mono ?_; rintro e w3 ⟨rfl, hout3⟩)
      | (go_at_call 79; refine W1.mono ?_; rintro e w2 ⟨rfl, hout2⟩))
  have HU : Hid _ := hout3
  clear hout2 hout3
  go_wp2_with fail
  first
    | (refine (hf _).mono ?_; rintro e w4 ⟨rfl, rfl⟩; go_wp2_with fail; refine (W3 _ HU.out).mono ?_; rintro e w5 ⟨rfl, hout⟩; have HV : Hid _ := hout; clear hout)
    | (go_region_held3 (fun w' => True) (exact trivial)
        (first
          | (go_at_call 83; refine (hf _).mono ?_; rintro e w4 ⟨rfl, rfl⟩)
          | (go_at_call 78; refine (W3 _ (MOut.drew HU.out)).mono ?_; rintro e w5 ⟨rfl, hout⟩; have HV : Hid _ := hout; clear hout)))
  go_wp2
  go_end0
  exact ⟨rfl, HV.out⟩
set_option maxHeartbeats 4000000 in
theorem mEqual_any {w : World} {p : Nat} {vs vc : Value} {fl : List Int} {s : MS} {l r x : Int} (op : Nat) (n tj pl : Int) (h : MacAt w p vs vc fl s) (hl : s.st.length ≤ 4000) (hr : s.st.getLast?.getD 0 = r) (hl2 : s.st.dropLast.getLast?.getD 0 = l) (hf : ∀ w, Calls Tryd.prog 83 #[.int .i64 l, .int .i64 r] w fun e w' => e = .returned (.int .i64 x) ∧ w' = w) :
    Calls Tryd.prog 57 #[.pointer (some ⟨p, 0, none⟩), insV op n tj pl] w fun e w' => e = .returned (.tuple #[]) ∧ MOut w w' p vs vc fl { s with st := s.st.dropLast.dropLast ++ [x] } := by
  obtain ⟨w1, hw1, H0⟩ : ∃ w1, w.alloc (.cells #[.int .i64 op, .int .i64 n, .int .i64 tj, .int .i64 pl] 105) = w1 ∧ MSt w w1 p vs vc fl s (insO op n tj pl) := ⟨_, rfl, MSt.of h _⟩
  unfold insV
  have H : Hid _ := H0
  have W1 := twoEqual_any H0.out0 hl hr hl2 hf
  unfold fnV at W1
  have HW : Hid _ := hw1
  clear h H0 hw1 hf
  go_enter Tryd.func57, Tryd.ntmps57
  go_wp2_with fail
  rw [HW.out]
  refine W1.mono ?_
  rintro e w2 ⟨rfl, hout⟩
  have HU : Hid _ := hout
  clear hout W1
  go_wp2
  go_end0
  exact ⟨rfl, H.out.out _ _ HU.out⟩
set_option maxHeartbeats 4000000 in
theorem twoLess_any {w : World} {p : Nat} {vs vc : Value} {fl : List Int} {s : MS} {l r x : Int} (h : MOut w w p vs vc fl s) (hl : s.st.length ≤ 4000) (hr : s.st.getLast?.getD 0 = r) (hl2 : s.st.dropLast.getLast?.getD 0 = l) (hf : ∀ w, Calls Tryd.prog 84 #[.int .i64 l, .int .i64 r] w fun e w' => e = .returned (.int .i64 x) ∧ w' = w) :
    Calls Tryd.prog 80 #[.pointer (some ⟨p, 0, none⟩), fnV 84] w fun e w' => e = .returned (.tuple #[]) ∧ MOut w w' p vs vc fl { s with st := s.st.dropLast.dropLast ++ [x] } := by
  unfold fnV
  have W1 := h.drew.pop (by omega)
  rw [hr] at W1
  have W2 : ∀ W, MOut w W p vs vc fl { s with st := s.st.dropLast } → Calls Tryd.prog 79 #[.pointer (some ⟨p, 0, none⟩)] W fun e w' => e = .returned (.int .i64 l) ∧ MOut w w' p vs vc fl { s with st := s.st.dropLast.dropLast } := fun W h => by
    have := h.pop (by simp; omega)
    simp only [hl2] at this; exact this
  have W3 : ∀ W, MOut w W p vs vc fl { s with st := s.st.dropLast.dropLast } → Calls Tryd.prog 78 #[.pointer (some ⟨p, 0, none⟩), .int .i64 x] W fun e w' => e = .returned (.tuple #[]) ∧ MOut w w' p vs vc fl { s with st := s.st.dropLast.dropLast ++ [x] } := fun W h => h.push x (by simp; omega)
  clear h hr hl2
  go_enter Tryd.func80, Tryd.ntmps80
  go_wp2_with fail
  go_region_held3 (fun w' => True) (exact trivial)
    (first
      | (go_at_call 79; refine (W2 _ (by assumption)).mono ?_; rintro e w3 ⟨rfl, hout3⟩)
      | (go_at_call 79; refine W1.mono ?_; rintro e w2 ⟨rfl, hout2⟩))
  have HU : Hid _ := hout3
  clear hout2 hout3
  go_wp2_with fail
  first
    | (refine (hf _).mono ?_; rintro e w4 ⟨rfl, rfl⟩; go_wp2_with fail; refine (W3 _ HU.out).mono ?_; rintro e w5 ⟨rfl, hout⟩; have HV : Hid _ := hout; clear hout)
    | (go_region_held3 (fun w' => True) (exact trivial)
        (first
          | (go_at_call 84; refine (hf _).mono ?_; rintro e w4 ⟨rfl, rfl⟩)
          | (go_at_call 78; refine (W3 _ (MOut.drew HU.out)).mono ?_; rintro e w5 ⟨rfl, hout⟩; have HV : Hid _ := hout; clear hout)))
  go_wp2
  go_end0
  exact ⟨rfl, HV.out⟩
set_option maxHeartbeats 4000000 in
theorem mLess_any {w : World} {p : Nat} {vs vc : Value} {fl : List Int} {s : MS} {l r x : Int} (op : Nat) (n tj pl : Int) (h : MacAt w p vs vc fl s) (hl : s.st.length ≤ 4000) (hr : s.st.getLast?.getD 0 = r) (hl2 : s.st.dropLast.getLast?.getD 0 = l) (hf : ∀ w, Calls Tryd.prog 84 #[.int .i64 l, .int .i64 r] w fun e w' => e = .returned (.int .i64 x) ∧ w' = w) :
    Calls Tryd.prog 58 #[.pointer (some ⟨p, 0, none⟩), insV op n tj pl] w fun e w' => e = .returned (.tuple #[]) ∧ MOut w w' p vs vc fl { s with st := s.st.dropLast.dropLast ++ [x] } := by
  obtain ⟨w1, hw1, H0⟩ : ∃ w1, w.alloc (.cells #[.int .i64 op, .int .i64 n, .int .i64 tj, .int .i64 pl] 105) = w1 ∧ MSt w w1 p vs vc fl s (insO op n tj pl) := ⟨_, rfl, MSt.of h _⟩
  unfold insV
  have H : Hid _ := H0
  have W1 := twoLess_any H0.out0 hl hr hl2 hf
  unfold fnV at W1
  have HW : Hid _ := hw1
  clear h H0 hw1 hf
  go_enter Tryd.func58, Tryd.ntmps58
  go_wp2_with fail
  rw [HW.out]
  refine W1.mono ?_
  rintro e w2 ⟨rfl, hout⟩
  have HU : Hid _ := hout
  clear hout W1
  go_wp2
  go_end0
  exact ⟨rfl, H.out.out _ _ HU.out⟩
set_option maxHeartbeats 4000000 in
theorem twoAtMost_any {w : World} {p : Nat} {vs vc : Value} {fl : List Int} {s : MS} {l r x : Int} (h : MOut w w p vs vc fl s) (hl : s.st.length ≤ 4000) (hr : s.st.getLast?.getD 0 = r) (hl2 : s.st.dropLast.getLast?.getD 0 = l) (hf : ∀ w, Calls Tryd.prog 85 #[.int .i64 l, .int .i64 r] w fun e w' => e = .returned (.int .i64 x) ∧ w' = w) :
    Calls Tryd.prog 80 #[.pointer (some ⟨p, 0, none⟩), fnV 85] w fun e w' => e = .returned (.tuple #[]) ∧ MOut w w' p vs vc fl { s with st := s.st.dropLast.dropLast ++ [x] } := by
  unfold fnV
  have W1 := h.drew.pop (by omega)
  rw [hr] at W1
  have W2 : ∀ W, MOut w W p vs vc fl { s with st := s.st.dropLast } → Calls Tryd.prog 79 #[.pointer (some ⟨p, 0, none⟩)] W fun e w' => e = .returned (.int .i64 l) ∧ MOut w w' p vs vc fl { s with st := s.st.dropLast.dropLast } := fun W h => by
    have := h.pop (by simp; omega)
    simp only [hl2] at this; exact this
  have W3 : ∀ W, MOut w W p vs vc fl { s with st := s.st.dropLast.dropLast } → Calls Tryd.prog 78 #[.pointer (some ⟨p, 0, none⟩), .int .i64 x] W fun e w' => e = .returned (.tuple #[]) ∧ MOut w w' p vs vc fl { s with st := s.st.dropLast.dropLast ++ [x] } := fun W h => h.push x (by simp; omega)
  clear h hr hl2
  go_enter Tryd.func80, Tryd.ntmps80
  go_wp2_with fail
  go_region_held3 (fun w' => True) (exact trivial)
    (first
      | (go_at_call 79; refine (W2 _ (by assumption)).mono ?_; rintro e w3 ⟨rfl, hout3⟩)
      | (go_at_call 79; refine W1.mono ?_; rintro e w2 ⟨rfl, hout2⟩))
  have HU : Hid _ := hout3
  clear hout2 hout3
  go_wp2_with fail
  first
    | (refine (hf _).mono ?_; rintro e w4 ⟨rfl, rfl⟩; go_wp2_with fail; refine (W3 _ HU.out).mono ?_; rintro e w5 ⟨rfl, hout⟩; have HV : Hid _ := hout; clear hout)
    | (go_region_held3 (fun w' => True) (exact trivial)
        (first
          | (go_at_call 85; refine (hf _).mono ?_; rintro e w4 ⟨rfl, rfl⟩)
          | (go_at_call 78; refine (W3 _ (MOut.drew HU.out)).mono ?_; rintro e w5 ⟨rfl, hout⟩; have HV : Hid _ := hout; clear hout)))
  go_wp2
  go_end0
  exact ⟨rfl, HV.out⟩
set_option maxHeartbeats 4000000 in
theorem mAtMost_any {w : World} {p : Nat} {vs vc : Value} {fl : List Int} {s : MS} {l r x : Int} (op : Nat) (n tj pl : Int) (h : MacAt w p vs vc fl s) (hl : s.st.length ≤ 4000) (hr : s.st.getLast?.getD 0 = r) (hl2 : s.st.dropLast.getLast?.getD 0 = l) (hf : ∀ w, Calls Tryd.prog 85 #[.int .i64 l, .int .i64 r] w fun e w' => e = .returned (.int .i64 x) ∧ w' = w) :
    Calls Tryd.prog 59 #[.pointer (some ⟨p, 0, none⟩), insV op n tj pl] w fun e w' => e = .returned (.tuple #[]) ∧ MOut w w' p vs vc fl { s with st := s.st.dropLast.dropLast ++ [x] } := by
  obtain ⟨w1, hw1, H0⟩ : ∃ w1, w.alloc (.cells #[.int .i64 op, .int .i64 n, .int .i64 tj, .int .i64 pl] 105) = w1 ∧ MSt w w1 p vs vc fl s (insO op n tj pl) := ⟨_, rfl, MSt.of h _⟩
  unfold insV
  have H : Hid _ := H0
  have W1 := twoAtMost_any H0.out0 hl hr hl2 hf
  unfold fnV at W1
  have HW : Hid _ := hw1
  clear h H0 hw1 hf
  go_enter Tryd.func59, Tryd.ntmps59
  go_wp2_with fail
  rw [HW.out]
  refine W1.mono ?_
  rintro e w2 ⟨rfl, hout⟩
  have HU : Hid _ := hout
  clear hout W1
  go_wp2
  go_end0
  exact ⟨rfl, H.out.out _ _ HU.out⟩
set_option maxHeartbeats 4000000 in
theorem twoAnd_any {w : World} {p : Nat} {vs vc : Value} {fl : List Int} {s : MS} {l r x : Int} (h : MOut w w p vs vc fl s) (hl : s.st.length ≤ 4000) (hr : s.st.getLast?.getD 0 = r) (hl2 : s.st.dropLast.getLast?.getD 0 = l) (hf : ∀ w, Calls Tryd.prog 87 #[.int .i64 l, .int .i64 r] w fun e w' => e = .returned (.int .i64 x) ∧ w' = w) :
    Calls Tryd.prog 80 #[.pointer (some ⟨p, 0, none⟩), fnV 87] w fun e w' => e = .returned (.tuple #[]) ∧ MOut w w' p vs vc fl { s with st := s.st.dropLast.dropLast ++ [x] } := by
  unfold fnV
  have W1 := h.drew.pop (by omega)
  rw [hr] at W1
  have W2 : ∀ W, MOut w W p vs vc fl { s with st := s.st.dropLast } → Calls Tryd.prog 79 #[.pointer (some ⟨p, 0, none⟩)] W fun e w' => e = .returned (.int .i64 l) ∧ MOut w w' p vs vc fl { s with st := s.st.dropLast.dropLast } := fun W h => by
    have := h.pop (by simp; omega)
    simp only [hl2] at this; exact this
  have W3 : ∀ W, MOut w W p vs vc fl { s with st := s.st.dropLast.dropLast } → Calls Tryd.prog 78 #[.pointer (some ⟨p, 0, none⟩), .int .i64 x] W fun e w' => e = .returned (.tuple #[]) ∧ MOut w w' p vs vc fl { s with st := s.st.dropLast.dropLast ++ [x] } := fun W h => h.push x (by simp; omega)
  clear h hr hl2
  go_enter Tryd.func80, Tryd.ntmps80
  go_wp2_with fail
  go_region_held3 (fun w' => True) (exact trivial)
    (first
      | (go_at_call 79; refine (W2 _ (by assumption)).mono ?_; rintro e w3 ⟨rfl, hout3⟩)
      | (go_at_call 79; refine W1.mono ?_; rintro e w2 ⟨rfl, hout2⟩))
  have HU : Hid _ := hout3
  clear hout2 hout3
  go_wp2_with fail
  first
    | (refine (hf _).mono ?_; rintro e w4 ⟨rfl, rfl⟩; go_wp2_with fail; refine (W3 _ HU.out).mono ?_; rintro e w5 ⟨rfl, hout⟩; have HV : Hid _ := hout; clear hout)
    | (go_region_held3 (fun w' => True) (exact trivial)
        (first
          | (go_at_call 87; refine (hf _).mono ?_; rintro e w4 ⟨rfl, rfl⟩)
          | (go_at_call 78; refine (W3 _ (MOut.drew HU.out)).mono ?_; rintro e w5 ⟨rfl, hout⟩; have HV : Hid _ := hout; clear hout)))
  go_wp2
  go_end0
  exact ⟨rfl, HV.out⟩
set_option maxHeartbeats 4000000 in
theorem mAnd_any {w : World} {p : Nat} {vs vc : Value} {fl : List Int} {s : MS} {l r x : Int} (op : Nat) (n tj pl : Int) (h : MacAt w p vs vc fl s) (hl : s.st.length ≤ 4000) (hr : s.st.getLast?.getD 0 = r) (hl2 : s.st.dropLast.getLast?.getD 0 = l) (hf : ∀ w, Calls Tryd.prog 87 #[.int .i64 l, .int .i64 r] w fun e w' => e = .returned (.int .i64 x) ∧ w' = w) :
    Calls Tryd.prog 61 #[.pointer (some ⟨p, 0, none⟩), insV op n tj pl] w fun e w' => e = .returned (.tuple #[]) ∧ MOut w w' p vs vc fl { s with st := s.st.dropLast.dropLast ++ [x] } := by
  obtain ⟨w1, hw1, H0⟩ : ∃ w1, w.alloc (.cells #[.int .i64 op, .int .i64 n, .int .i64 tj, .int .i64 pl] 105) = w1 ∧ MSt w w1 p vs vc fl s (insO op n tj pl) := ⟨_, rfl, MSt.of h _⟩
  unfold insV
  have H : Hid _ := H0
  have W1 := twoAnd_any H0.out0 hl hr hl2 hf
  unfold fnV at W1
  have HW : Hid _ := hw1
  clear h H0 hw1 hf
  go_enter Tryd.func61, Tryd.ntmps61
  go_wp2_with fail
  rw [HW.out]
  refine W1.mono ?_
  rintro e w2 ⟨rfl, hout⟩
  have HU : Hid _ := hout
  clear hout W1
  go_wp2
  go_end0
  exact ⟨rfl, H.out.out _ _ HU.out⟩
set_option maxHeartbeats 4000000 in
theorem twoOr_any {w : World} {p : Nat} {vs vc : Value} {fl : List Int} {s : MS} {l r x : Int} (h : MOut w w p vs vc fl s) (hl : s.st.length ≤ 4000) (hr : s.st.getLast?.getD 0 = r) (hl2 : s.st.dropLast.getLast?.getD 0 = l) (hf : ∀ w, Calls Tryd.prog 88 #[.int .i64 l, .int .i64 r] w fun e w' => e = .returned (.int .i64 x) ∧ w' = w) :
    Calls Tryd.prog 80 #[.pointer (some ⟨p, 0, none⟩), fnV 88] w fun e w' => e = .returned (.tuple #[]) ∧ MOut w w' p vs vc fl { s with st := s.st.dropLast.dropLast ++ [x] } := by
  unfold fnV
  have W1 := h.drew.pop (by omega)
  rw [hr] at W1
  have W2 : ∀ W, MOut w W p vs vc fl { s with st := s.st.dropLast } → Calls Tryd.prog 79 #[.pointer (some ⟨p, 0, none⟩)] W fun e w' => e = .returned (.int .i64 l) ∧ MOut w w' p vs vc fl { s with st := s.st.dropLast.dropLast } := fun W h => by
    have := h.pop (by simp; omega)
    simp only [hl2] at this; exact this
  have W3 : ∀ W, MOut w W p vs vc fl { s with st := s.st.dropLast.dropLast } → Calls Tryd.prog 78 #[.pointer (some ⟨p, 0, none⟩), .int .i64 x] W fun e w' => e = .returned (.tuple #[]) ∧ MOut w w' p vs vc fl { s with st := s.st.dropLast.dropLast ++ [x] } := fun W h => h.push x (by simp; omega)
  clear h hr hl2
  go_enter Tryd.func80, Tryd.ntmps80
  go_wp2_with fail
  go_region_held3 (fun w' => True) (exact trivial)
    (first
      | (go_at_call 79; refine (W2 _ (by assumption)).mono ?_; rintro e w3 ⟨rfl, hout3⟩)
      | (go_at_call 79; refine W1.mono ?_; rintro e w2 ⟨rfl, hout2⟩))
  have HU : Hid _ := hout3
  clear hout2 hout3
  go_wp2_with fail
  first
    | (refine (hf _).mono ?_; rintro e w4 ⟨rfl, rfl⟩; go_wp2_with fail; refine (W3 _ HU.out).mono ?_; rintro e w5 ⟨rfl, hout⟩; have HV : Hid _ := hout; clear hout)
    | (go_region_held3 (fun w' => True) (exact trivial)
        (first
          | (go_at_call 88; refine (hf _).mono ?_; rintro e w4 ⟨rfl, rfl⟩)
          | (go_at_call 78; refine (W3 _ (MOut.drew HU.out)).mono ?_; rintro e w5 ⟨rfl, hout⟩; have HV : Hid _ := hout; clear hout)))
  go_wp2
  go_end0
  exact ⟨rfl, HV.out⟩
set_option maxHeartbeats 4000000 in
theorem mOr_any {w : World} {p : Nat} {vs vc : Value} {fl : List Int} {s : MS} {l r x : Int} (op : Nat) (n tj pl : Int) (h : MacAt w p vs vc fl s) (hl : s.st.length ≤ 4000) (hr : s.st.getLast?.getD 0 = r) (hl2 : s.st.dropLast.getLast?.getD 0 = l) (hf : ∀ w, Calls Tryd.prog 88 #[.int .i64 l, .int .i64 r] w fun e w' => e = .returned (.int .i64 x) ∧ w' = w) :
    Calls Tryd.prog 62 #[.pointer (some ⟨p, 0, none⟩), insV op n tj pl] w fun e w' => e = .returned (.tuple #[]) ∧ MOut w w' p vs vc fl { s with st := s.st.dropLast.dropLast ++ [x] } := by
  obtain ⟨w1, hw1, H0⟩ : ∃ w1, w.alloc (.cells #[.int .i64 op, .int .i64 n, .int .i64 tj, .int .i64 pl] 105) = w1 ∧ MSt w w1 p vs vc fl s (insO op n tj pl) := ⟨_, rfl, MSt.of h _⟩
  unfold insV
  have H : Hid _ := H0
  have W1 := twoOr_any H0.out0 hl hr hl2 hf
  unfold fnV at W1
  have HW : Hid _ := hw1
  clear h H0 hw1 hf
  go_enter Tryd.func62, Tryd.ntmps62
  go_wp2_with fail
  rw [HW.out]
  refine W1.mono ?_
  rintro e w2 ⟨rfl, hout⟩
  have HU : Hid _ := hout
  clear hout W1
  go_wp2
  go_end0
  exact ⟨rfl, H.out.out _ _ HU.out⟩
end Go.Proofs.YtfkdailfcmnjlaaDoor
