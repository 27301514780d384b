/-
  Rows of numbers in memory; what is touched. What is known at a place, in memory: a stack and cells.
-/
import Derived.Test.YtfkdailfcmnjlaaGreatDoorTells01
import Derived.Test.YtfkdailfcmnjlaaGreatDoorTells02
import Derived.Test.YtfkdailfcmnjlaaGreatDoorTells04
import Derived.Test.YtfkdailfcmnjlaaGreatDoorTells05
import Derived.Test.YtfkdailfcmnjlaaGreatDoorTells06
import Derived.Test.YtfkdailfcmnjlaaGreatDoorTells07
import Derived.Test.YtfkdailfcmnjlaaGreatDoorTells08
import Derived.Test.YtfkdailfcmnjlaaGreatDoorTells09
import Derived.Test.YtfkdailfcmnjlaaGreatDoorTells10
import Derived.Test.YtfkdailfcmnjlaaGreatDoorTells11
import Derived.Test.YtfkdailfcmnjlaaGreatDoorTells12
import Derived.Test.YtfkdailfcmnjlaaGreatDoorTells13
import Derived.Test.YtfkdailfcmnjlaaGreatDoorTells14
import Derived.Test.YtfkdailfcmnjlaaGreatDoorTells15
import Derived.Test.YtfkdailfcmnjlaaGreatDoorTells16
import Derived.Test.YtfkdailfcmnjlaaGreatDoorTells17
import Derived.Test.YtfkdailfcmnjlaaGreatDoorTells18
import Derived.Test.YtfkdailfcmnjlaaGreatDoorTells19
import Derived.Test.YtfkdailfcmnjlaaGreatDoorTells20
import Derived.Test.YtfkdailfcmnjlaaGreatDoorTells21
import Derived.Test.YtfkdailfcmnjlaaGreatDoorTells22
import Derived.Test.YtfkdailfcmnjlaaGreatDoorTells23
import Derived.Test.YtfkdailfcmnjlaaGreatDoorTells24
import Derived.Test.YtfkdailfcmnjlaaGreatDoorTells25
import Derived.Test.YtfkdailfcmnjlaaGreatDoorLays
import Derived.Test.YtfkdailfcmnjlaaGreatDoorLays2
import Derived.WalkSmall
import Derived.WalkKit
import Derived.Deep.QuietTactic
import Derived.BigQuiet
import Derived.WalkSpells
import GoSem.Op.String
import Derived.Deep.AppendLies
import Derived.Deep.RegionHeld3
import Derived.Deep.DrawnRows
import Derived.Deep.RegionHeldLaw
import Derived.Deep.RegionLaw
import Derived.Lib.ParseIntBCases
import Derived.Deep.OwnRows
import Derived.Lib.LaidTab
import Derived.Lib.AppendIntMem
import Derived.Shelf.Strings.Builder1
import Derived.Laws.CopyOwn
import Derived.Deep.DeepCutAuto
set_option linter.unusedVariables false
set_option linter.unusedSimpArgs false
namespace Go.Proofs.YtfkdailfcmnjlaaGreatDoor
open Go Go.RowKit
set_option maxRecDepth 100000
attribute [local go_sem ↓] Go.wp_at_zero Go.wp_at_succ

/-- All but some blocks is as it was. -/
structure Only (F : Nat → Prop) (w w' : World) : Prop where
  os : w'.os = w.os
  tape : w'.tape = w.tape
  output : w'.output = w.output
  size : w.heap.size ≤ w'.heap.size
  block : ∀ k, k < w.heap.size → ¬ F k → w'.heap[k]? = w.heap[k]?
theorem Only.refl (F : Nat → Prop) (w : World) : Only F w w := ⟨rfl, rfl, rfl, Nat.le_refl _, fun _ _ _ => rfl⟩
theorem Only.trans {F G H : Nat → Prop} {a b c : World} (h : Only F a b) (k : Only G b c) (hF : ∀ i, i < a.heap.size → F i → H i) (hG : ∀ i, i < a.heap.size → G i → H i) : Only H a c :=
  ⟨k.os.trans h.os, k.tape.trans h.tape, k.output.trans h.output, Nat.le_trans h.size k.size, fun i hi hn => (k.block i (Nat.lt_of_lt_of_le hi h.size) (fun g => hn (hG i hi g))).trans (h.block i hi (fun f => hn (hF i hi f)))⟩
theorem Only.weak {F G : Nat → Prop} {a b : World} (h : Only F a b) (hF : ∀ i, i < a.heap.size → F i → G i) : Only G a b :=
  ⟨h.os, h.tape, h.output, h.size, fun i hi hn => h.block i hi (fun f => hn (hF i hi f))⟩
theorem Only.drew {F : Nat → Prop} {a b : World} (h : Only F a b) : Only F a b.drew := ⟨h.os, h.tape, h.output, h.size, h.block⟩
theorem Only.alloc {F : Nat → Prop} {a b : World} (h : Only F a b) (o : Obj) : Only F a (b.alloc o) :=
  ⟨h.os, h.tape, h.output, by have := h.size; simp; omega, fun i hi hn => (Below.heap_alloc b o i (Nat.lt_of_lt_of_le hi h.size)).trans (h.block i hi hn)⟩
theorem Only.setCell {F : Nat → Prop} {a b : World} (h : Only F a b) {p o : Nat} (hp : F p ∨ a.heap.size ≤ p) (v : Value) : Only F a (b.setCell ⟨p, o, none⟩ v) :=
  ⟨h.os, h.tape, h.output, by simpa using h.size, fun i hi hn => (Below.heap_setCell _ _ _ _ (by
    intro e; simp only [] at e; subst e; rcases hp with hp | hp
    · exact hn hp
    · omega)).trans (h.block i hi hn)⟩
theorem Only.grown {F : Nat → Prop} {a b c : World} (h : Only F a b) {row : Option Nat} (hg : b.grownBy c row) (hr : ∀ k, row = some k → F k ∨ a.heap.size ≤ k) : Only F a c :=
  ⟨hg.os.trans h.os, hg.tape.trans h.tape, hg.output.trans h.output, Nat.le_trans h.size hg.size, fun i hi hn => (hg.block i (Nat.lt_of_lt_of_le hi h.size) (fun e => by
    rcases hr i e.symm with hp | hp
    · exact hn hp
    · omega)).trans (h.block i hi hn)⟩
theorem Only.below {F : Nat → Prop} {a b : World} (h : Only F a b) {B : Nat} (hB : B ≤ a.heap.size) (hF : ∀ k, k < a.heap.size → F k → B ≤ k) : Below B a b :=
  ⟨h.os, h.tape, h.output, h.size, fun i hi => h.block i (by omega) (fun f => by have := hF i (by omega) f; omega)⟩
/-- A row of numbers that a value has for itself. -/
def IR (w : World) (e : TypeId) (v : Value) (l : List Int) : Prop := w.ownsRow 0 e 1 v l.length (l.map (Value.int .i64))
theorem IR.nil (w : World) (e : TypeId) : IR w e (.slice none 0 0) [] := World.ownsRow_nil _ _ _ _
theorem IR.sl {w : World} {e : TypeId} {v : Value} {l : List Int} (h : IR w e v l) : ∃ a cap, v = .slice a l.length cap := by
  obtain ⟨hl, h⟩ := h
  rcases h with ⟨rfl, h0⟩ | ⟨g, cap, cur, rfl, hb, hg, h1, h2, h3, h4⟩
  · exact ⟨none, 0, by rw [h0]⟩
  · exact ⟨_, _, rfl⟩
theorem IR.form {w : World} {e : TypeId} {v : Value} {l : List Int} (h : IR w e v l) (h0 : 0 < l.length) : ∃ g cap, v = .slice (some ⟨g, 0, none⟩) l.length cap ∧ g < w.heap.size := by
  obtain ⟨g, cap, e, _, hlt⟩ := World.ownsRow.form h h0
  exact ⟨g, cap, e, hlt⟩
theorem IR.cell {w : World} {e : TypeId} {g n cap : Nat} {l : List Int} (h : IR w e (.slice (some ⟨g, 0, none⟩) n cap) l) {k : Nat} (hk : k < l.length) : w.cell? ⟨g, k, none⟩ = some (.int .i64 (l.getD k 0)) := by
  have hn : n = l.length := by obtain ⟨a, c, e⟩ := h.sl; simp at e; exact e.2.1
  subst hn
  rw [World.ownsRow.cellAt h k (by omega)]
  simp [List.getD_eq_getElem?_getD, List.getElem?_eq_getElem hk]
theorem IR.only {w w' : World} {e : TypeId} {v : Value} {l : List Int} (h : IR w e v l) {F : Nat → Prop} (ho : Only F w w') (hn : ∀ g, v.ownBlock = some g → ¬ F g) : IR w' e v l :=
  ownsRow_of_block h (fun k hk => ho.block k (h.lt k hk).2 (hn k hk))
theorem IR.ne {w : World} {e ty : TypeId} {v : Value} {l : List Int} (h : IR w e v l) {p : Nat} {cs : Array Value} {z : Nat × Nat} (hp : w.heap[p]? = some (.cells cs ty z)) (hty : ty ≠ e) : v.ownBlock ≠ some p := fun hb => by
  obtain ⟨cs', h'⟩ := ownsRow_type h hb
  rw [hp] at h'; simp at h'; exact hty h'.2.1
theorem IR.set {w : World} {e : TypeId} {g cap : Nat} {l : List Int} (h : IR w e (.slice (some ⟨g, 0, none⟩) l.length cap) l) {j : Nat} (hj : j < l.length) (u : Int) : IR (w.setCell ⟨g, j, none⟩ (.int .i64 u)) e (.slice (some ⟨g, 0, none⟩) l.length cap) (l.set j u) := by
  obtain ⟨hl, h⟩ := h
  refine ⟨by simp, ?_⟩
  rcases h with ⟨h, _⟩ | ⟨g', cap', cur, h, h1, h2, h3, h4, h5, h6⟩
  · simp at h
  · simp only [Value.slice.injEq, Option.some.injEq, Addr.mk.injEq, and_true, true_and] at h
    obtain ⟨rfl, rfl⟩ := h
    refine .inr ⟨g, cap, cur.setIfInBounds j (.int .i64 u), by simp, h1, heap_setCell_same w g j _ _ _ h2, by simpa using h3, h4, by simpa using h5, ?_⟩
    rw [List.map_set, ← h6]
    simp [List.take_set]
end Go.Proofs.YtfkdailfcmnjlaaGreatDoor

namespace Go.Proofs.YtfkdailfcmnjlaaGreatDoor
open Go Go.RowKit
set_option maxRecDepth 100000
attribute [local go_sem ↓] Go.wp_at_zero Go.wp_at_succ

/-- A set in memory: the stack (the lowest first), the cells as far as something was learnt. -/
structure SetAt (w : World) (p : Nat) (vs vc : Value) (st c : List Int) : Prop where
  blk : w.heap[p]? = some (.cells #[vs, vc] 289 (0, 0))
  st : IR w 220 vs st
  cl : IR w 220 vc c
  ne : ∀ b, vs.ownBlock = some b → vc.ownBlock ≠ some b
/-- Its blocks. -/
def Foot (p : Nat) (vs vc : Value) (b : Nat) : Prop := b = p ∨ vs.ownBlock = some b ∨ vc.ownBlock = some b
theorem SetAt.lt {w : World} {p : Nat} {vs vc : Value} {st c : List Int} (h : SetAt w p vs vc st c) {b : Nat} (hb : Foot p vs vc b) : b < w.heap.size := by
  rcases hb with rfl | hb | hb
  · exact lt_of_get h.blk
  · exact (h.st.lt b hb).2
  · exact (h.cl.lt b hb).2
theorem SetAt.only {w w' : World} {p : Nat} {vs vc : Value} {st c : List Int} (h : SetAt w p vs vc st c) {F : Nat → Prop} (ho : Only F w w') (hF : ∀ b, Foot p vs vc b → ¬ F b) : SetAt w' p vs vc st c :=
  ⟨(ho.block p (lt_of_get h.blk) (hF p (.inl rfl))).trans h.blk, h.st.only ho (fun g hg => hF g (.inr (.inl hg))), h.cl.only ho (fun g hg => hF g (.inr (.inr hg))), h.ne⟩
theorem SetAt.drew {w : World} {p : Nat} {vs vc : Value} {st c : List Int} (h : SetAt w p vs vc st c) : SetAt w.drew p vs vc st c := ⟨h.blk, h.st, h.cl, h.ne⟩
/-- What an operation on a set leaves. -/
def SetOut (w w' : World) (p : Nat) (vs vc : Value) (st c : List Int) : Prop :=
  ∃ vs' vc', SetAt w' p vs' vc' st c ∧ Only (Foot p vs vc) w w' ∧ ∀ b, Foot p vs' vc' b → Foot p vs vc b ∨ w.heap.size ≤ b
theorem SetOut.refl {w : World} {p : Nat} {vs vc : Value} {st c : List Int} (h : SetAt w p vs vc st c) : SetOut w w p vs vc st c := ⟨vs, vc, h, Only.refl _ _, fun _ hb => .inl hb⟩
theorem SetOut.then {w w1 w2 : World} {p : Nat} {vs vc vs1 vc1 : Value} {st2 c2 : List Int} (ho : Only (Foot p vs vc) w w1) (hf : ∀ b, Foot p vs1 vc1 b → Foot p vs vc b ∨ w.heap.size ≤ b) (h2 : SetOut w1 w2 p vs1 vc1 st2 c2) : SetOut w w2 p vs vc st2 c2 := by
  obtain ⟨vs2, vc2, hs, ho2, hf2⟩ := h2
  refine ⟨vs2, vc2, hs, ho.trans ho2 (fun _ _ h => h) (fun i hi h => ?_), fun b hb => ?_⟩
  · rcases hf i h with h | h
    · exact h
    · omega
  · rcases hf2 b hb with h | h
    · exact hf b h
    · right; have := ho.size; omega
end Go.Proofs.YtfkdailfcmnjlaaGreatDoor
