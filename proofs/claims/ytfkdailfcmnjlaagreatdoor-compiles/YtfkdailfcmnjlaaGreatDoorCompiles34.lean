/-
  A copy of rows of pairs; the law's loan of a state.
-/
import Derived.Test.YtfkdailfcmnjlaaGreatDoorCompiles01
import Derived.Test.YtfkdailfcmnjlaaGreatDoorCompiles02
import Derived.Test.YtfkdailfcmnjlaaGreatDoorCompiles04
import Derived.Test.YtfkdailfcmnjlaaGreatDoorCompiles05
import Derived.Test.YtfkdailfcmnjlaaGreatDoorCompiles06
import Derived.Test.YtfkdailfcmnjlaaGreatDoorCompiles07
import Derived.Test.YtfkdailfcmnjlaaGreatDoorCompiles08
import Derived.Test.YtfkdailfcmnjlaaGreatDoorCompiles09
import Derived.Test.YtfkdailfcmnjlaaGreatDoorCompiles10
import Derived.Test.YtfkdailfcmnjlaaGreatDoorCompiles11
import Derived.Test.YtfkdailfcmnjlaaGreatDoorCompiles12
import Derived.Test.YtfkdailfcmnjlaaGreatDoorCompiles13
import Derived.Test.YtfkdailfcmnjlaaGreatDoorCompiles14
import Derived.Test.YtfkdailfcmnjlaaGreatDoorCompiles15
import Derived.Test.YtfkdailfcmnjlaaGreatDoorCompiles16
import Derived.Test.YtfkdailfcmnjlaaGreatDoorCompiles17
import Derived.Test.YtfkdailfcmnjlaaGreatDoorCompiles18
import Derived.Test.YtfkdailfcmnjlaaGreatDoorCompiles19
import Derived.Test.YtfkdailfcmnjlaaGreatDoorCompiles20
import Derived.Test.YtfkdailfcmnjlaaGreatDoorCompiles21
import Derived.Test.YtfkdailfcmnjlaaGreatDoorCompiles22
import Derived.Test.YtfkdailfcmnjlaaGreatDoorCompiles23
import Derived.Test.YtfkdailfcmnjlaaGreatDoorCompiles24
import Derived.Test.YtfkdailfcmnjlaaGreatDoorCompiles28
import Derived.Test.YtfkdailfcmnjlaaGreatDoorCompiles29
import Derived.Test.YtfkdailfcmnjlaaGreatDoorCompiles30
import Derived.Test.YtfkdailfcmnjlaaGreatDoorCompiles31
import Derived.Test.YtfkdailfcmnjlaaGreatDoorCompiles32
import Derived.Test.YtfkdailfcmnjlaaGreatDoorLays
import Derived.Test.YtfkdailfcmnjlaaGreatDoorLays2
import Derived.Laws.CopyOwn
import Derived.WalkKit
import Derived.Deep.QuietTactic
import Derived.BigQuiet
import Derived.WalkSpells
import GoSem.Op.String
import Derived.Deep.AppendLies
import Derived.Deep.RegionHeld3
import Derived.Deep.DrawnRows
import Derived.Deep.RegionHeldLaw
import Derived.Deep.RegionLaw
import Derived.Lib.ParseIntBCases
import Derived.Deep.OwnRows
import Derived.Lib.LaidTab
import Derived.Lib.AppendIntMem
import Derived.Shelf.Strings.Builder1
set_option linter.unusedVariables false
set_option linter.unusedSimpArgs false
namespace Go.Proofs.YtfkdailfcmnjlaaGreatDoor
open Go Go.RowKit
set_option maxRecDepth 100000
attribute [local go_sem ↓] Go.wp_at_zero Go.wp_at_succ

theorem run_copy_wide {P : Program} (w : World) (dT sT ty elem : TypeId) (b o dLen dCap : Nat) (sp : Option Addr) (sLen sCap sz : Nat) (cs : List Value)
    (hu : P.underlying dT = some (.slice elem)) (hs : (P.info? elem).map (·.size) = some sz) (hn : cs.length = Nat.min sLen dLen * sz)
    (hsrc : 0 < cs.length → ∃ a, sp = some a ∧ ∀ j v, cs[j]? = some v → w.cell? (a.add j) = some v) (hc : ∀ j, j < cs.length → (w.cell? ⟨b, o + j, none⟩).isSome = true) (hf : ∀ j, j < cs.length → w.frozen? ⟨b, o + j, none⟩ = false) (h1 : ∀ v ∈ cs, v.oneCell' = true) :
    (Builtin.copy_ #[dT, sT] ty #[.slice (some ⟨b, o, none⟩) dLen dCap, .slice sp sLen sCap]).run P w = .ok (goInt (Nat.min sLen dLen)) (w.setCells b o cs) := by
  have hst := run_storeCells_cells (P := P) b o cs 0 w (by simpa using hc) (by simpa using hf) h1
  cases hq : P.info? elem with
  | none => simp [hq] at hs
  | some i =>
    have hi : i.size = sz := by simpa [hq] using hs
    by_cases h0 : 0 < cs.length
    · obtain ⟨a, rfl, hsrc'⟩ := hsrc h0
      have hl := run_loadCells_list (P := P) w a cs hsrc'
      simp [Builtin.copy_, run_underlying hu, Builtin.lenOf, Builtin.firstCells, sizeOf, typeInfo, hq, hi, ← hn, hl, hst]
    · obtain rfl : cs = [] := List.eq_nil_of_length_eq_zero (by omega)
      have hl : ∀ (x : Addr), (loadCells x 0).run P w = .ok #[] w := fun x => by simpa using run_loadCells_list (P := P) w x [] (by simp)
      have hn0 : Nat.min sLen dLen * sz = 0 := by simpa using hn.symm
      cases sp <;> simp [Builtin.copy_, run_underlying hu, Builtin.lenOf, Builtin.firstCells, sizeOf, typeInfo, hq, hi, hn0, storeCells, hl, World.setCells]
theorem step_copy_wide {P : Program} {ops : Array Oper} {o : Oper} {a : Act} {w : World} {K : Act → World → Prop} {Q : Exit → Act → World → Prop} {E : Prop} (hgd : o.guard = none) (d s : Operand) (dT sT : TypeId)
    (ho : o.op = .call { callee := .builtin .copy, args := #[d, s], argTypes := #[dT, sT] }) (elem : TypeId) (hu : P.underlying dT = some (.slice elem)) (sz : Nat) (hsz : (P.info? elem).map (·.size) = some sz)
    (g off dLen dCap : Nat) (sp : Option Addr) (sLen sCap : Nat) (hd : a.eval d = .slice (some ⟨g, off, none⟩) dLen dCap) (hs : a.eval s = .slice sp sLen sCap)
    (cs : List Value) (hn : cs.length = Nat.min sLen dLen * sz)
    (hsrc : 0 < cs.length → ∃ a, sp = some a ∧ ∀ j v, cs[j]? = some v → w.cell? (a.add j) = some v) (hc : ∀ j, j < cs.length → (w.cell? ⟨g, off + j, none⟩).isSome = true) (hf : ∀ j, j < cs.length → w.frozen? ⟨g, off + j, none⟩ = false) (h1 : ∀ v ∈ cs, v.oneCell' = true)
    (h : K (a.put o.dst (goInt (Nat.min sLen dLen))) (w.setCells g off cs)) :
    if Region.wanted o (yielded ops a.tmps) = true then Oper.wp P o a w K Q else E := by
  have hw : Region.wanted o (yielded ops a.tmps) = true := by simp [Region.wanted, hgd]
  rw [if_pos hw]
  have hrun := run_copy_wide (P := P) w dT sT o.type elem g off dLen dCap sp sLen sCap sz cs hu hsz hn hsrc hc hf h1
  unfold Oper.wp
  simp [execOp, ho, resolve, invoke, builtin, hd, hs, hrun, Result.andThen]
  exact h
theorem run_make_wide {P : Program} (t e : TypeId) (z : Value) (sz bytes : Nat) (ht : P.underlying t = some (.slice e)) (hinfo : (P.info? e).map (fun i => (i.zero, i.size, i.bytes)) = some (some z, sz, bytes))
    (kl kc : IntKind) (n : Nat) (hbytes : bytes * n ≤ 281474976710656) (h63 : n ≤ 9223372036854775807) (w : World) :
    (Instr.makeSlice t (.int kl (n : Int)) (.int kc (n : Int))).run P w = .ok (.slice (some ⟨w.heap.size, 0, none⟩) n n) (w.alloc (.cells (madeCells z.cells (n * sz)) e)) := by
  obtain ⟨i, hi, hzz⟩ := Option.map_eq_some_iff.1 hinfo
  simp only [Prod.mk.injEq] at hzz
  obtain ⟨hz, hs, hb⟩ := hzz
  have hb' : (i.bytes : Int) * (n : Int) ≤ 281474976710656 := by
    have h : ((i.bytes * n : Nat) : Int) ≤ 281474976710656 := by rw [hb]; omega
    rwa [Int.natCast_mul] at h
  have hr := run_make (P := P) w t e i z ht hi hz kl kc n n (by omega) (Int.le_refl _) hb' (by omega)
  simp only [Int.toNat_natCast, hs] at hr
  exact hr
theorem info_level : (Tryz.prog.info? 108).map (fun i => (i.zero, i.size, i.bytes)) = some (some (.agg #[.string ⟨#[]⟩, .int .i64 0]), 2, 24) := by kernel_rfl
theorem info_member : (Tryz.prog.info? 110).map (fun i => (i.zero, i.size, i.bytes)) = some (some (.agg #[.string ⟨#[]⟩, .int .i64 0]), 2, 24) := by kernel_rfl

/-- A row of pairs. -/
structure PairRow (w : World) (g : Nat) (ty : TypeId) (k : Nat) (f : Nat → List UInt8 × Int) : Prop where
  blk : ∃ cs, w.heap[g]? = some (.cells cs ty (0, 0)) ∧ cs.size = k * 2
  fst : ∀ j, j < k → w.cell? ⟨g, j * 2, none⟩ = some (S (f j).1)
  snd : ∀ j, j < k → w.cell? ⟨g, j * 2 + 1, none⟩ = some (.int .i64 (f j).2)
theorem PairRow.frz {w : World} {g : Nat} {ty : TypeId} {k : Nat} {f : Nat → List UInt8 × Int} (h : PairRow w g ty k f) (j : Nat) : w.frozen? ⟨g, j, none⟩ = false := by
  obtain ⟨cs, hc, _⟩ := h.blk
  simp [World.frozen?, hc]
theorem PairRow.of_block {w w' : World} {g : Nat} {ty : TypeId} {k : Nat} {f : Nat → List UInt8 × Int} (h : PairRow w g ty k f) (hb : w'.heap[g]? = w.heap[g]?) : PairRow w' g ty k f :=
  ⟨by rw [hb]; exact h.blk, fun j hj => by rw [World.cell?_of_block (w := w) (a := ⟨g, j * 2, none⟩) hb]; exact h.fst j hj, fun j hj => by rw [World.cell?_of_block (w := w) (a := ⟨g, j * 2 + 1, none⟩) hb]; exact h.snd j hj⟩
theorem PairRow.put {w : World} {g : Nat} {ty : TypeId} {k : Nat} {f f' : Nat → List UInt8 × Int} (h : PairRow w g ty k f) {j : Nat} (hj : j < k) {x : List UInt8} {y : Int} (he : f' j = (x, y)) (ho : ∀ i, i < k → i ≠ j → f' i = f i) : PairRow ((w.setCell ⟨g, j * 2, none⟩ (S x)).setCell ⟨g, j * 2 + 1, none⟩ (.int .i64 y)) g ty k f' := by
  obtain ⟨cs, hc, hs⟩ := h.blk
  have e1 := heap_setCell_same w g (j * 2) cs ty (S x) hc
  have e2 := heap_setCell_same _ g (j * 2 + 1) _ ty (.int .i64 y) e1
  have hcell : ∀ q, ((w.setCell ⟨g, j * 2, none⟩ (S x)).setCell ⟨g, j * 2 + 1, none⟩ (.int .i64 y)).cell? ⟨g, q, none⟩ = if q = j * 2 + 1 then some (.int .i64 y) else if q = j * 2 then some (S x) else w.cell? ⟨g, q, none⟩ := fun q => by
    rw [cell_of_row _ g q _ _ _ e2, cell_of_row w g q _ _ _ hc]
    by_cases a : q = j * 2 + 1
    · subst a; rw [if_pos rfl, Array.getElem?_setIfInBounds, if_pos rfl, if_pos (by simp; omega)]
    · rw [if_neg a]
      by_cases b : q = j * 2
      · subst b; rw [if_pos rfl, Array.getElem?_setIfInBounds_ne (by omega), Array.getElem?_setIfInBounds, if_pos rfl, if_pos (by omega)]
      · rw [if_neg b, Array.getElem?_setIfInBounds_ne (by omega), Array.getElem?_setIfInBounds_ne (by omega)]
  refine ⟨⟨_, e2, by simpa using hs⟩, fun i hi => ?_, fun i hi => ?_⟩
  · rw [hcell]
    by_cases e : i = j
    · subst e; rw [if_neg (by omega), if_pos rfl, he]
    · rw [if_neg (by omega), if_neg (by omega), ho i hi e]; exact h.fst i hi
  · rw [hcell]
    by_cases e : i = j
    · subst e; rw [if_pos rfl, he]
    · rw [if_neg (by omega), if_neg (by omega), ho i hi e]; exact h.snd i hi
/-- The cells of pairs. -/
def pcells (ls : List (List UInt8 × Int)) : List Value := ls.flatMap fun x => [S x.1, .int .i64 x.2]
theorem pcells_len (ls : List (List UInt8 × Int)) : (pcells ls).length = ls.length * 2 := by
  induction ls with
  | nil => rfl
  | cons x r ih => simp [pcells] at ih ⊢; omega
theorem pcells_at (ls : List (List UInt8 × Int)) : ∀ j, j < ls.length → (pcells ls)[j * 2]? = some (S (ls.getD j ([], 0)).1) ∧ (pcells ls)[j * 2 + 1]? = some (.int .i64 (ls.getD j ([], 0)).2) := by
  induction ls with
  | nil => intro j hj; simp at hj
  | cons x r ih =>
    intro j hj
    have e : pcells (x :: r) = S x.1 :: .int .i64 x.2 :: pcells r := rfl
    cases j with
    | zero => rw [e]; exact ⟨rfl, rfl⟩
    | succ j =>
      obtain ⟨a, b⟩ := ih j (by simpa using hj)
      rw [e, show (j + 1) * 2 = j * 2 + 1 + 1 by omega, show j * 2 + 1 + 1 + 1 = (j * 2 + 1) + 1 + 1 by omega]
      simp only [List.getElem?_cons_succ, List.getD_cons_succ]
      exact ⟨a, b⟩
theorem pcells_one (ls : List (List UInt8 × Int)) : ∀ v ∈ pcells ls, v.oneCell' = true := by
  intro v hv
  simp only [pcells, List.mem_flatMap] at hv
  obtain ⟨x, _, hx⟩ := hv
  simp at hx
  rcases hx with rfl | rfl <;> rfl
theorem pcells_src {ls : List (List UInt8 × Int)} {w : World} {a : Option Addr} (h : ∀ i, i < ls.length → ∃ b o, a = some ⟨b, o, none⟩ ∧ w.cell? ⟨b, o + i * 2, none⟩ = some (S (ls.getD i ([], 0)).1) ∧ w.cell? ⟨b, o + i * 2 + 1, none⟩ = some (.int .i64 (ls.getD i ([], 0)).2) ∧ In64 (ls.getD i ([], 0)).2) :
    0 < (pcells ls).length → ∃ ad, a = some ad ∧ ∀ j v, (pcells ls)[j]? = some v → w.cell? (ad.add j) = some v := fun h0 => by
  rw [pcells_len] at h0
  obtain ⟨b, o, e, _⟩ := h 0 (by omega)
  refine ⟨_, e, fun j v hv => ?_⟩
  rw [Addr.add_mid]
  have hj : j < ls.length * 2 := by rw [← pcells_len]; exact (List.getElem?_eq_some_iff.1 hv).1
  obtain ⟨b', o', e', c0, c1, _⟩ := h (j / 2) (by omega)
  rw [e] at e'
  simp at e'
  obtain ⟨rfl, rfl⟩ := e'
  obtain ⟨p0, p1⟩ := pcells_at ls (j / 2) (by omega)
  rcases Nat.mod_two_eq_zero_or_one j with hm | hm
  · have ej : j / 2 * 2 = j := by omega
    rw [ej] at c0 p0
    rw [p0] at hv; simp at hv; rw [← hv]; exact c0
  · have ej : j / 2 * 2 + 1 = j := by omega
    rw [ej] at p1
    rw [show o + j / 2 * 2 + 1 = o + j by omega] at c1
    rw [p1] at hv; simp at hv; rw [← hv]; exact c1
theorem made_pair {w : World} {g : Nat} {ty : TypeId} {k : Nat} (h : w.heap[g]? = some (.cells (madeCells #[.string ⟨#[]⟩, .int .i64 0] (k * 2)) ty (0, 0))) : PairRow w g ty k (fun _ => ([], 0)) := by
  have hc := fun j => cell_of_row w g j _ _ _ h
  refine ⟨⟨_, h, size_madeCells _ _⟩, fun j hj => ?_, fun j hj => ?_⟩
  · have e : j * 2 % 2 = 0 := by omega
    have hl : j * 2 < k * 2 := by omega
    rw [hc]; unfold madeCells; simp [e, hl]
  · have e : (j * 2 + 1) % 2 = 1 := by omega
    have hl : j * 2 + 1 < k * 2 := by omega
    rw [hc]; unfold madeCells; simp [e, hl]
theorem heap_setCells_at {w : World} {g : Nat} {ty : TypeId} : ∀ (vs : List Value) (o : Nat) {w : World} {cs : Array Value}, w.heap[g]? = some (.cells cs ty (0, 0)) → ∃ cs', (w.setCells g o vs).heap[g]? = some (.cells cs' ty (0, 0)) ∧ cs'.size = cs.size
  | [], _, _, cs, h => ⟨cs, h, rfl⟩
  | v :: r, o, w, cs, h => by
    obtain ⟨cs', h1, h2⟩ := heap_setCells_at r (o + 1) (w := w.setCell ⟨g, o, none⟩ v) (heap_setCell_same w g o cs ty v h)
    exact ⟨cs', h1, by rw [h2]; simp⟩
theorem heap_setCells_far {g k : Nat} (h : k ≠ g) : ∀ (vs : List Value) (o : Nat) (w : World), (w.setCells g o vs).heap[k]? = w.heap[k]?
  | [], _, _ => rfl
  | v :: r, o, w => (heap_setCells_far h r (o + 1) _).trans (Below.heap_setCell _ _ _ _ (by simpa using h))
theorem PairRow.copied {w : World} {g : Nat} {ty : TypeId} {k : Nat} {f : Nat → List UInt8 × Int} (h : PairRow w g ty k f) (ls : List (List UInt8 × Int)) (hk : ls.length ≤ k) : PairRow (w.setCells g 0 (pcells ls)) g ty k (fun j => if j < ls.length then ls.getD j ([], 0) else f j) := by
  obtain ⟨cs, hc, hs⟩ := h.blk
  obtain ⟨cs', h1, h2⟩ := heap_setCells_at (g := g) (w := w) (pcells ls) 0 hc
  have hlen := pcells_len ls
  have hsome : ∀ j, j < (pcells ls).length → (w.cell? ⟨g, 0 + j, none⟩).isSome = true := fun j hj => by
    rw [Nat.zero_add, cell_of_row w g j _ _ _ hc]; simp; omega
  have hin := World.cell?_setCells_in g (pcells ls) 0 w hsome
  refine ⟨⟨cs', h1, by omega⟩, fun j hj => ?_, fun j hj => ?_⟩
  · by_cases hjl : j < ls.length
    · rw [if_pos hjl]
      have e := hin (j * 2) (by omega)
      rw [Nat.zero_add] at e
      rw [e, ← List.getElem?_eq_getElem]; exact (pcells_at ls j hjl).1
    · rw [if_neg hjl, World.cell?_setCells_out _ _ _ _ _ (fun _ _ => .inr (by simp only []; omega))]; exact h.fst j hj
  · by_cases hjl : j < ls.length
    · rw [if_pos hjl]
      have e := hin (j * 2 + 1) (by omega)
      rw [Nat.zero_add] at e
      rw [e, ← List.getElem?_eq_getElem]; exact (pcells_at ls j hjl).2
    · rw [if_neg hjl, World.cell?_setCells_out _ _ _ _ _ (fun _ _ => .inr (by simp only []; omega))]; exact h.snd j hj
theorem PairRow.there {w : World} {g : Nat} {ty : TypeId} {k : Nat} {f : Nat → List UInt8 × Int} (h : PairRow w g ty k f) {n : Nat} (hn : n ≤ k * 2) : (∀ j, j < n → (w.cell? ⟨g, 0 + j, none⟩).isSome = true) ∧ ∀ j, j < n → w.frozen? ⟨g, 0 + j, none⟩ = false := by
  obtain ⟨cs, hc, hs⟩ := h.blk
  exact ⟨fun j hj => by rw [Nat.zero_add, cell_of_row w g j _ _ _ hc]; simp; omega, fun j _ => h.frz _⟩
/-- The loan's entries: the list's, and eight behind. -/
def bhd : List UInt8 := [98, 101, 104, 105, 110, 100]
def entL (ls : List (List UInt8 × Int)) (i : Nat) (j : Nat) : List UInt8 × Int := if j < ls.length then ls.getD j ([], 0) else if j < ls.length + i then (bhd, ((j - ls.length : Nat) : Int)) else ([], 0)
end Go.Proofs.YtfkdailfcmnjlaaGreatDoor
