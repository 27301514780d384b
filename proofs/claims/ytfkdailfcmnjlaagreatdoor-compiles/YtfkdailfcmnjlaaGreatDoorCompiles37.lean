/-
  Rows of numbers in memory; what is touched. A stack of types: Push, Pop, Height. What is known at a place, in memory: a stack and cells.
-/
import Derived.Test.YtfkdailfcmnjlaaGreatDoorCompiles01
import Derived.Test.YtfkdailfcmnjlaaGreatDoorCompiles02
import Derived.Test.YtfkdailfcmnjlaaGreatDoorCompiles04
import Derived.Test.YtfkdailfcmnjlaaGreatDoorCompiles05
import Derived.Test.YtfkdailfcmnjlaaGreatDoorCompiles06
import Derived.Test.YtfkdailfcmnjlaaGreatDoorCompiles07
import Derived.Test.YtfkdailfcmnjlaaGreatDoorCompiles08
import Derived.Test.YtfkdailfcmnjlaaGreatDoorCompiles09
import Derived.Test.YtfkdailfcmnjlaaGreatDoorCompiles10
import Derived.Test.YtfkdailfcmnjlaaGreatDoorCompiles11
import Derived.Test.YtfkdailfcmnjlaaGreatDoorCompiles12
import Derived.Test.YtfkdailfcmnjlaaGreatDoorCompiles13
import Derived.Test.YtfkdailfcmnjlaaGreatDoorCompiles14
import Derived.Test.YtfkdailfcmnjlaaGreatDoorCompiles15
import Derived.Test.YtfkdailfcmnjlaaGreatDoorCompiles16
import Derived.Test.YtfkdailfcmnjlaaGreatDoorCompiles17
import Derived.Test.YtfkdailfcmnjlaaGreatDoorCompiles18
import Derived.Test.YtfkdailfcmnjlaaGreatDoorCompiles19
import Derived.Test.YtfkdailfcmnjlaaGreatDoorCompiles20
import Derived.Test.YtfkdailfcmnjlaaGreatDoorCompiles21
import Derived.Test.YtfkdailfcmnjlaaGreatDoorCompiles22
import Derived.Test.YtfkdailfcmnjlaaGreatDoorCompiles23
import Derived.Test.YtfkdailfcmnjlaaGreatDoorCompiles24
import Derived.Test.YtfkdailfcmnjlaaGreatDoorCompiles28
import Derived.Test.YtfkdailfcmnjlaaGreatDoorCompiles29
import Derived.Test.YtfkdailfcmnjlaaGreatDoorCompiles30
import Derived.Test.YtfkdailfcmnjlaaGreatDoorCompiles31
import Derived.Test.YtfkdailfcmnjlaaGreatDoorCompiles32
import Derived.Test.YtfkdailfcmnjlaaGreatDoorCompiles34
import Derived.Test.YtfkdailfcmnjlaaGreatDoorCompiles35
import Derived.Test.YtfkdailfcmnjlaaGreatDoorLays
import Derived.Test.YtfkdailfcmnjlaaGreatDoorLays2
import Derived.WalkSmall
import Derived.WalkKit
import Derived.Deep.QuietTactic
import Derived.BigQuiet
import Derived.WalkSpells
import GoSem.Op.String
import Derived.Deep.AppendLies
import Derived.Deep.RegionHeld3
import Derived.Deep.DrawnRows
import Derived.Deep.RegionHeldLaw
import Derived.Deep.RegionLaw
import Derived.Lib.ParseIntBCases
import Derived.Deep.OwnRows
import Derived.Lib.LaidTab
import Derived.Lib.AppendIntMem
import Derived.Shelf.Strings.Builder1
import Derived.Laws.CopyOwn
import Derived.Deep.DeepCutAuto
set_option linter.unusedVariables false
set_option linter.unusedSimpArgs false
namespace Go.Proofs.YtfkdailfcmnjlaaGreatDoor
open Go Go.RowKit
set_option maxRecDepth 100000
attribute [local go_sem ↓] Go.wp_at_zero Go.wp_at_succ

/-- All but some blocks is as it was. -/
structure Only (F : Nat → Prop) (w w' : World) : Prop where
  os : w'.os = w.os
  tape : w'.tape = w.tape
  output : w'.output = w.output
  size : w.heap.size ≤ w'.heap.size
  block : ∀ k, k < w.heap.size → ¬ F k → w'.heap[k]? = w.heap[k]?
theorem Only.refl (F : Nat → Prop) (w : World) : Only F w w := ⟨rfl, rfl, rfl, Nat.le_refl _, fun _ _ _ => rfl⟩
theorem Only.trans {F G H : Nat → Prop} {a b c : World} (h : Only F a b) (k : Only G b c) (hF : ∀ i, i < a.heap.size → F i → H i) (hG : ∀ i, i < a.heap.size → G i → H i) : Only H a c :=
  ⟨k.os.trans h.os, k.tape.trans h.tape, k.output.trans h.output, Nat.le_trans h.size k.size, fun i hi hn => (k.block i (Nat.lt_of_lt_of_le hi h.size) (fun g => hn (hG i hi g))).trans (h.block i hi (fun f => hn (hF i hi f)))⟩
theorem Only.weak {F G : Nat → Prop} {a b : World} (h : Only F a b) (hF : ∀ i, i < a.heap.size → F i → G i) : Only G a b :=
  ⟨h.os, h.tape, h.output, h.size, fun i hi hn => h.block i hi (fun f => hn (hF i hi f))⟩
theorem Only.drew {F : Nat → Prop} {a b : World} (h : Only F a b) : Only F a b.drew := ⟨h.os, h.tape, h.output, h.size, h.block⟩
theorem Only.of_drew {F : Nat → Prop} {a b : World} (h : Only F a.drew b) : Only F a b := ⟨h.os, h.tape, h.output, h.size, h.block⟩
theorem Only.alloc {F : Nat → Prop} {a b : World} (h : Only F a b) (o : Obj) : Only F a (b.alloc o) :=
  ⟨h.os, h.tape, h.output, by have := h.size; simp; omega, fun i hi hn => (Below.heap_alloc b o i (Nat.lt_of_lt_of_le hi h.size)).trans (h.block i hi hn)⟩
theorem Only.setCell {F : Nat → Prop} {a b : World} (h : Only F a b) {p o : Nat} (hp : F p ∨ a.heap.size ≤ p) (v : Value) : Only F a (b.setCell ⟨p, o, none⟩ v) :=
  ⟨h.os, h.tape, h.output, by simpa using h.size, fun i hi hn => (Below.heap_setCell _ _ _ _ (by
    intro e; simp only [] at e; subst e; rcases hp with hp | hp
    · exact hn hp
    · omega)).trans (h.block i hi hn)⟩
theorem Only.grown {F : Nat → Prop} {a b c : World} (h : Only F a b) {row : Option Nat} (hg : b.grownBy c row) (hr : ∀ k, row = some k → F k ∨ a.heap.size ≤ k) : Only F a c :=
  ⟨hg.os.trans h.os, hg.tape.trans h.tape, hg.output.trans h.output, Nat.le_trans h.size hg.size, fun i hi hn => (hg.block i (Nat.lt_of_lt_of_le hi h.size) (fun e => by
    rcases hr i e.symm with hp | hp
    · exact hn hp
    · omega)).trans (h.block i hi hn)⟩
theorem Only.below {F : Nat → Prop} {a b : World} (h : Only F a b) {B : Nat} (hB : B ≤ a.heap.size) (hF : ∀ k, k < a.heap.size → F k → B ≤ k) : Below B a b :=
  ⟨h.os, h.tape, h.output, h.size, fun i hi => h.block i (by omega) (fun f => by have := hF i (by omega) f; omega)⟩
theorem Only.of_below {F : Nat → Prop} {a b : World} (h : Below a.heap.size a b) : Only F a b := ⟨h.os, h.tape, h.output, h.size, fun i hi _ => h.block i hi⟩
/-- A row of numbers that a value has for itself. -/
def IR (w : World) (e : TypeId) (v : Value) (l : List Int) : Prop := w.ownsRow 0 e 1 v l.length (l.map (Value.int .i64))
theorem IR.nil (w : World) (e : TypeId) : IR w e (.slice none 0 0) [] := World.ownsRow_nil _ _ _ _
theorem IR.sl {w : World} {e : TypeId} {v : Value} {l : List Int} (h : IR w e v l) : ∃ a cap, v = .slice a l.length cap := by
  obtain ⟨hl, h⟩ := h
  rcases h with ⟨rfl, h0⟩ | ⟨g, cap, cur, rfl, hb, hg, h1, h2, h3, h4⟩
  · exact ⟨none, 0, by rw [h0]⟩
  · exact ⟨_, _, rfl⟩
theorem IR.form {w : World} {e : TypeId} {v : Value} {l : List Int} (h : IR w e v l) (h0 : 0 < l.length) : ∃ g cap, v = .slice (some ⟨g, 0, none⟩) l.length cap ∧ g < w.heap.size := by
  obtain ⟨g, cap, e, _, hlt⟩ := World.ownsRow.form h h0
  exact ⟨g, cap, e, hlt⟩
theorem IR.cap {w : World} {e : TypeId} {g n cap : Nat} {l : List Int} (h : IR w e (.slice (some ⟨g, 0, none⟩) n cap) l) : l.length ≤ cap := by
  obtain ⟨_, h⟩ := h
  rcases h with ⟨h, _⟩ | ⟨g', cap', cur, h, h1, h2, h3, _⟩
  · simp at h
  · simp only [Value.slice.injEq, Option.some.injEq, Addr.mk.injEq, and_true, true_and] at h
    omega
theorem IR.cell {w : World} {e : TypeId} {g n cap : Nat} {l : List Int} (h : IR w e (.slice (some ⟨g, 0, none⟩) n cap) l) {k : Nat} (hk : k < l.length) : w.cell? ⟨g, k, none⟩ = some (.int .i64 (l.getD k 0)) := by
  have hn : n = l.length := by obtain ⟨a, c, e⟩ := h.sl; simp at e; exact e.2.1
  subst hn
  rw [World.ownsRow.cellAt h k (by omega)]
  simp [List.getD_eq_getElem?_getD, List.getElem?_eq_getElem hk]
theorem IR.frz {w : World} {e : TypeId} {g n cap : Nat} {l : List Int} (h : IR w e (.slice (some ⟨g, 0, none⟩) n cap) l) (k : Nat) : w.frozen? ⟨g, k, none⟩ = false := by
  have hn : n = l.length := by obtain ⟨a, c, e⟩ := h.sl; simp at e; exact e.2.1
  subst hn
  exact World.ownsRow.frozenAt h k
theorem IR.only {w w' : World} {e : TypeId} {v : Value} {l : List Int} (h : IR w e v l) {F : Nat → Prop} (ho : Only F w w') (hn : ∀ g, v.ownBlock = some g → ¬ F g) : IR w' e v l :=
  ownsRow_of_block h (fun k hk => ho.block k (h.lt k hk).2 (hn k hk))
theorem IR.ne {w : World} {e ty : TypeId} {v : Value} {l : List Int} (h : IR w e v l) {p : Nat} {cs : Array Value} {z : Nat × Nat} (hp : w.heap[p]? = some (.cells cs ty z)) (hty : ty ≠ e) : v.ownBlock ≠ some p := fun hb => by
  obtain ⟨cs', h'⟩ := ownsRow_type h hb
  rw [hp] at h'; simp at h'; exact hty h'.2.1
theorem IR.pop {w : World} {e : TypeId} {g cap : Nat} {l : List Int} {x : Int} (h : IR w e (.slice (some ⟨g, 0, none⟩) (l.length + 1) cap) (l ++ [x])) : IR w e (.slice (some ⟨g, 0, none⟩) l.length cap) l := by
  unfold IR at *
  rw [List.length_append, List.map_append] at h
  exact ownsRow_pop (by simp) h
theorem IR.set {w : World} {e : TypeId} {g cap : Nat} {l : List Int} (h : IR w e (.slice (some ⟨g, 0, none⟩) l.length cap) l) {j : Nat} (hj : j < l.length) (u : Int) : IR (w.setCell ⟨g, j, none⟩ (.int .i64 u)) e (.slice (some ⟨g, 0, none⟩) l.length cap) (l.set j u) := by
  obtain ⟨hl, h⟩ := h
  refine ⟨by simp, ?_⟩
  rcases h with ⟨h, _⟩ | ⟨g', cap', cur, h, h1, h2, h3, h4, h5, h6⟩
  · simp at h
  · simp only [Value.slice.injEq, Option.some.injEq, Addr.mk.injEq, and_true, true_and] at h
    obtain ⟨rfl, rfl⟩ := h
    refine .inr ⟨g, cap, cur.setIfInBounds j (.int .i64 u), by simp, h1, heap_setCell_same w g j _ _ _ h2, by simpa using h3, h4, by simpa using h5, ?_⟩
    rw [List.map_set, ← h6]
    simp [List.take_set]
end Go.Proofs.YtfkdailfcmnjlaaGreatDoor

namespace Go.Proofs.YtfkdailfcmnjlaaGreatDoor
open Go Go.RowKit
set_option maxRecDepth 100000
attribute [local go_sem ↓] Go.wp_at_zero Go.wp_at_succ

theorem info_TType : (Tryz.prog.info? 220).map (fun i => (i.zero, i.size, i.bytes)) = some (some (.int .i64 0), 1, 8) := by kernel_rfl
set_option maxHeartbeats 2000000 in
theorem tpush_any {p : Nat} {cs : Array Value} {ty : TypeId} {v : Value} {l : List Int} (x : Int) {w : World} (hp : w.heap[p]? = some (.cells cs ty (0, 0))) (h0 : cs[0]? = some v) (hr : IR w 220 v l) (hty : ty ≠ 220) (hl : l.length ≤ 5000) :
    Calls Tryz.prog 231 #[.pointer (some ⟨p, 0, none⟩), .int .i64 x] w fun e w' => e = .returned (.tuple #[]) ∧ ∃ v', w'.heap[p]? = some (.cells (cs.setIfInBounds 0 v') ty (0, 0)) ∧ IR w' 220 v' (l ++ [x]) ∧ Only (fun b => b = p ∨ v.ownBlock = some b) w w' ∧ ∀ b, v'.ownBlock = some b → v.ownBlock = some b ∨ w.heap.size ≤ b := by
  have hpc : w.cell? ⟨p, 0, none⟩ = some v := by rw [cell_of_row w p 0 _ _ _ hp]; exact h0
  have hpf : w.frozen? ⟨p, 0, none⟩ = false := by simp [World.frozen?, hp]
  have hlt := lt_of_get hp
  have hne := hr.ne hp hty
  obtain ⟨a, cap, rfl⟩ := hr.sl
  obtain ⟨i0, hi, hz⟩ := Option.map_eq_some_iff.1 info_TType
  simp only [Prod.mk.injEq] at hz
  obtain ⟨hz0, hz1, hz2⟩ := hz
  have HP : Hid _ := hp
  have HR : Hid _ := hr
  have HN : Hid _ := hne
  clear hp hr h0 hne
  go_enter Tryz.func231, Tryz.ntmps231
  go_wp2_with (
    at_builtin
    go_must (refine wpList_append_lies _ (by rfl) _ _ 219 (by rfl) 0 220 i0 (.int .i64 0) 1 8 Tryz.underlying219 hi hz0 hz1 hz2 (by rfl) (by decide) _ _ _ (by rfl) (HR.out.alloc _) ⟨w.heap.size, 0, none⟩ 1 1 [.int .i64 x] (by rfl) (by rfl) (World.news_of_block (heap_alloc_new w _)) (fun x hx => by simp at hx; rcases hx with rfl; rfl) (by decide) (by unfold maxLen; omega) (by omega) (by simp) _ rfl ?_)
    intro gg cap' w3 hown3 hgrow hat hlt3
    have e0 : w3.heap[p]? = w.heap[p]? := (hgrow.block _ (by simp; omega) (fun e => HN.out e.symm)).trans (Below.heap_alloc w _ _ hlt)
    have e1 := (World.cell?_of_block (a := ⟨p, 0, none⟩) e0).trans hpc
    have e2 := (World.frozen?_of_block (a := ⟨p, 0, none⟩) e0).trans hpf
    have HE0 : Hid _ := e0
    have HO3 : Hid _ := hown3
    have HG3 : Hid _ := hgrow
    clear e0 hown3 hgrow)
  go_end0
  refine ⟨rfl, .slice (some ⟨gg, 0, none⟩) (l.length + 1) cap', ?_, ?_, ?_, ?_⟩
  · rw [heap_setCell_same w3 p 0 _ _ _ (HE0.out.trans HP.out)]
  · have h1 : w3.ownsRow 0 220 1 (.slice (some ⟨gg, 0, none⟩) (l.length + 1) cap') (l.length + 1) (l.map (Value.int .i64) ++ [.int .i64 x]) := HO3.out
    have h2 := ownsRow_setCell_other h1 (a := ⟨p, 0, none⟩) (by
      intro e
      simp [Value.ownBlock] at e
      rcases hat with h | h
      · exact HN.out (by rw [h, e])
      · rw [World.size_alloc] at h; omega) (.slice (some ⟨gg, 0, none⟩) (l.length + 1) cap')
    unfold IR; simpa using h2
  · exact (((Only.refl _ w).alloc _).grown HG3.out (fun k hk => .inl (.inr hk))).setCell (.inl (.inl rfl)) _
  · intro b hb
    simp [Value.ownBlock] at hb
    subst hb
    rcases hat with h | h
    · exact .inl h
    · right; rw [h, World.size_alloc]; omega
theorem last_row {w : World} {e : TypeId} {g n cap : Nat} {r : List Int} {x : Int} (h : IR w e (.slice (some ⟨g, 0, none⟩) n cap) (r ++ [x])) : n = r.length + 1 ∧ w.cell? ⟨g, r.length, none⟩ = some (.int .i64 x) := by
  refine ⟨?_, ?_⟩
  · obtain ⟨a, c, e⟩ := h.sl; simp at e; exact e.2.1
  · rw [h.cell (by simp)]; simp
set_option maxHeartbeats 2000000 in
theorem tpop_any {p : Nat} {cs : Array Value} {ty : TypeId} {v : Value} {l : List Int} {w : World} (hp : w.heap[p]? = some (.cells cs ty (0, 0))) (h0 : cs[0]? = some v) (hr : IR w 220 v l) (hty : ty ≠ 220) (hl : l.length ≤ 5000) :
    Calls Tryz.prog 232 #[.pointer (some ⟨p, 0, none⟩)] w fun e w' => e = .returned (.int .i64 (l.getLast?.getD 0)) ∧ ∃ v', w'.heap[p]? = some (.cells (cs.setIfInBounds 0 v') ty (0, 0)) ∧ IR w' 220 v' l.dropLast ∧ Only (fun b => b = p) w w' ∧ v'.ownBlock = v.ownBlock := by
  have hpc : w.cell? ⟨p, 0, none⟩ = some v := by rw [cell_of_row w p 0 _ _ _ hp]; exact h0
  have hpf : w.frozen? ⟨p, 0, none⟩ = false := by simp [World.frozen?, hp]
  have hne := hr.ne hp hty
  rcases List.eq_nil_or_concat l with rfl | ⟨r, x, rfl⟩
  · have HA : Hid (∃ v', w.heap[p]? = some (.cells (cs.setIfInBounds 0 v') ty (0, 0)) ∧ IR w 220 v' ([] : List Int).dropLast ∧ Only (fun b => b = p) w w ∧ v'.ownBlock = v.ownBlock) := ⟨v, by
      rw [hp]
      congr 2
      apply Array.ext_getElem?
      intro i
      rw [Array.getElem?_setIfInBounds]
      split
      · rename_i e; subst e; split
        · exact h0
        · rename_i hh; rw [Array.getElem?_eq_none (by omega)]
      · rfl, hr, Only.refl _ _, rfl⟩
    obtain ⟨a, cap, rfl⟩ := hr.sl
    clear hp hr h0 hne
    simp only [List.length_nil] at *
    go_enter Tryz.func232, Tryz.ntmps232
    go_wp2
    go_ret
    exact ⟨rfl, HA.out⟩
  · rw [List.concat_eq_append] at *
    obtain ⟨g, cap, rfl, hg⟩ := hr.form (by simp)
    obtain ⟨_, hx⟩ := last_row hr
    have e1 : (r ++ [x]).length = r.length + 1 := by simp
    rw [e1] at hpc hr hne hl
    have hcap := hr.cap
    rw [e1] at hcap
    have q2 : (0 : Int) ≤ (r.length : Int) ∧ (r.length : Int) ≤ (cap : Int) := by omega
    have HP : Hid _ := hp
    have HR : Hid _ := hr
    have HN : Hid _ := hne
    have e2 : (r ++ [x]).getLast?.getD 0 = x := by simp
    have e3 : (r ++ [x]).dropLast = r := by simp
    have hgp : g ≠ p := fun e => hne (by rw [e]; rfl)
    have q0 : (0 : Int) ≤ (r.length : Int) + 1 - 1 := by omega
    have q1 : (0 : Int) ≤ (r.length : Int) ∧ (r.length : Int) < (r.length : Int) + 1 := by omega
    rw [e2, e3]
    clear hp hr h0 hne
    go_enter Tryz.func232, Tryz.ntmps232
    go_wp2
    go_ret
    refine ⟨rfl, .slice (some ⟨g, 0, none⟩) r.length cap, ?_, ?_, (Only.refl (fun b => b = p) w).setCell (.inl rfl) _, rfl⟩
    · rw [heap_setCell_same w p 0 _ _ _ HP.out]
    · exact (IR.pop HR.out).only ((Only.refl (fun b => b = p) _).setCell (.inl rfl) _) (fun k hk => by simp [Value.ownBlock] at hk; omega)
set_option maxHeartbeats 2000000 in
theorem theight_any {p : Nat} {cs : Array Value} {ty : TypeId} {v : Value} {l : List Int} {w : World} (hp : w.heap[p]? = some (.cells cs ty (0, 0))) (h0 : cs[0]? = some v) (hr : IR w 220 v l) :
    Calls Tryz.prog 189 #[.pointer (some ⟨p, 0, none⟩)] w fun e w' => e = .returned (.int .i64 l.length) ∧ w' = w := by
  have hpc : w.cell? ⟨p, 0, none⟩ = some v := by rw [cell_of_row w p 0 _ _ _ hp]; exact h0
  obtain ⟨a, cap, rfl⟩ := hr.sl
  clear hp hr h0
  go_enter Tryz.func189, Tryz.ntmps189
  go_wp2
  go_ret
  exact ⟨rfl, rfl⟩
end Go.Proofs.YtfkdailfcmnjlaaGreatDoor

namespace Go.Proofs.YtfkdailfcmnjlaaGreatDoor
open Go Go.RowKit
set_option maxRecDepth 100000
attribute [local go_sem ↓] Go.wp_at_zero Go.wp_at_succ

/-- A set in memory: the stack (the lowest first), the cells as far as something was learnt. -/
structure SetAt (w : World) (p : Nat) (vs vc : Value) (st c : List Int) : Prop where
  blk : w.heap[p]? = some (.cells #[vs, vc] 289 (0, 0))
  st : IR w 220 vs st
  cl : IR w 220 vc c
  ne : ∀ b, vs.ownBlock = some b → vc.ownBlock ≠ some b
/-- Its blocks. -/
def Foot (p : Nat) (vs vc : Value) (b : Nat) : Prop := b = p ∨ vs.ownBlock = some b ∨ vc.ownBlock = some b
theorem SetAt.lt {w : World} {p : Nat} {vs vc : Value} {st c : List Int} (h : SetAt w p vs vc st c) {b : Nat} (hb : Foot p vs vc b) : b < w.heap.size := by
  rcases hb with rfl | hb | hb
  · exact lt_of_get h.blk
  · exact (h.st.lt b hb).2
  · exact (h.cl.lt b hb).2
theorem SetAt.only {w w' : World} {p : Nat} {vs vc : Value} {st c : List Int} (h : SetAt w p vs vc st c) {F : Nat → Prop} (ho : Only F w w') (hF : ∀ b, Foot p vs vc b → ¬ F b) : SetAt w' p vs vc st c :=
  ⟨(ho.block p (lt_of_get h.blk) (hF p (.inl rfl))).trans h.blk, h.st.only ho (fun g hg => hF g (.inr (.inl hg))), h.cl.only ho (fun g hg => hF g (.inr (.inr hg))), h.ne⟩
theorem SetAt.drew {w : World} {p : Nat} {vs vc : Value} {st c : List Int} (h : SetAt w p vs vc st c) : SetAt w.drew p vs vc st c := ⟨h.blk, h.st, h.cl, h.ne⟩
/-- What an operation on a set leaves. -/
def SetOut (w w' : World) (p : Nat) (vs vc : Value) (st c : List Int) : Prop :=
  ∃ vs' vc', SetAt w' p vs' vc' st c ∧ Only (Foot p vs vc) w w' ∧ ∀ b, Foot p vs' vc' b → Foot p vs vc b ∨ w.heap.size ≤ b
theorem SetOut.refl {w : World} {p : Nat} {vs vc : Value} {st c : List Int} (h : SetAt w p vs vc st c) : SetOut w w p vs vc st c := ⟨vs, vc, h, Only.refl _ _, fun _ hb => .inl hb⟩
theorem SetOut.then {w w1 w2 : World} {p : Nat} {vs vc vs1 vc1 : Value} {st2 c2 : List Int} (ho : Only (Foot p vs vc) w w1) (hf : ∀ b, Foot p vs1 vc1 b → Foot p vs vc b ∨ w.heap.size ≤ b) (h2 : SetOut w1 w2 p vs1 vc1 st2 c2) : SetOut w w2 p vs vc st2 c2 := by
  obtain ⟨vs2, vc2, hs, ho2, hf2⟩ := h2
  refine ⟨vs2, vc2, hs, ho.trans ho2 (fun _ _ h => h) (fun i hi h => ?_), fun b hb => ?_⟩
  · rcases hf i h with h | h
    · exact h
    · omega
  · rcases hf2 b hb with h | h
    · exact hf b h
    · right; have := ho.size; omega
theorem ty_ne : 289 ≠ 220 := by decide
set_option maxHeartbeats 2000000 in
theorem spush_any {w : World} {p : Nat} {vs vc : Value} {st c : List Int} (x : Int) (h : SetAt w p vs vc st c) (hl : st.length ≤ 5000) :
    Calls Tryz.prog 231 #[.pointer (some ⟨p, 0, none⟩), .int .i64 x] w fun e w' => e = .returned (.tuple #[]) ∧ SetOut w w' p vs vc (st ++ [x]) c := by
  refine (tpush_any x h.blk (v := vs) rfl h.st ty_ne hl).mono ?_
  rintro e w' ⟨rfl, v', hb, hi, ho, hf⟩
  have hvp := h.cl.ne h.blk ty_ne
  refine ⟨rfl, v', vc, ⟨hb, hi, h.cl.only ho (fun g hg hn => ?_), fun b h1 h2 => ?_⟩, ho.weak (fun i _ hi => ?_), fun b hb => ?_⟩
  · rcases hn with rfl | hn
    · exact hvp hg
    · exact h.ne g hn hg
  · rcases hf b h1 with h3 | h3
    · exact h.ne b h3 h2
    · have := (h.cl.lt b h2).2; omega
  · rcases hi with rfl | hi
    · exact .inl rfl
    · exact .inr (.inl hi)
  · rcases hb with rfl | hb | hb
    · exact .inl (.inl rfl)
    · rcases hf b hb with h3 | h3
      · exact .inl (.inr (.inl h3))
      · exact .inr h3
    · exact .inl (.inr (.inr hb))
set_option maxHeartbeats 2000000 in
theorem spop_any {w : World} {p : Nat} {vs vc : Value} {st c : List Int} (h : SetAt w p vs vc st c) (hl : st.length ≤ 5000) :
    Calls Tryz.prog 232 #[.pointer (some ⟨p, 0, none⟩)] w fun e w' => e = .returned (.int .i64 (st.getLast?.getD 0)) ∧ SetOut w w' p vs vc st.dropLast c := by
  refine (tpop_any h.blk (v := vs) rfl h.st ty_ne hl).mono ?_
  rintro e w' ⟨rfl, v', hb, hi, ho, hf⟩
  have hvp := h.cl.ne h.blk ty_ne
  refine ⟨rfl, v', vc, ⟨hb, hi, h.cl.only ho (fun g hg hn => ?_), fun b h1 h2 => ?_⟩, ho.weak (fun i _ hi => .inl hi), fun b hb => ?_⟩
  · subst hn; exact hvp hg
  · rw [hf] at h1; exact h.ne b h1 h2
  · unfold Foot at hb ⊢
    rw [hf] at hb; exact .inl hb
set_option maxHeartbeats 2000000 in
theorem sof_any {w : World} {p : Nat} {vs vc : Value} {st c : List Int} (k : Nat) (h : SetAt w p vs vc st c) :
    Calls Tryz.prog 234 #[.pointer (some ⟨p, 0, none⟩), .int .i64 k] w fun e w' => e = .returned (.int .i64 (c.getD k 0)) ∧ w' = w := by
  have hpc : w.cell? ⟨p, 1, none⟩ = some vc := by rw [cell_of_row w p 1 _ _ _ h.blk]; rfl
  by_cases hk : k < c.length
  · obtain ⟨g, cap, rfl, hg⟩ := h.cl.form (by omega)
    have hc := h.cl.cell hk
    generalize c.getD k 0 = x at *
    clear h
    go_enter Tryz.func234, Tryz.ntmps234
    go_wp2
    go_ret
    exact ⟨rfl, rfl⟩
  · obtain ⟨a, cap, rfl⟩ := h.cl.sl
    have e : c.getD k 0 = 0 := by rw [List.getD_eq_getElem?_getD, List.getElem?_eq_none (by omega)]; rfl
    rw [e]
    clear h
    go_enter Tryz.func234, Tryz.ntmps234
    go_wp2
    go_ret
    exact ⟨rfl, rfl⟩
/-- What is learnt of a cell. -/
def learnL (c : List Int) (k : Nat) (x : Int) : List Int := (c ++ List.replicate (k + 1 - c.length) 0).set k x
end Go.Proofs.YtfkdailfcmnjlaaGreatDoor
