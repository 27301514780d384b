/-
  The reference's reader: what its small methods do to the reader.
-/
import Derived.Test.YtfkdailfcmnjlaaGreatDoorCompiles01
import Derived.Test.YtfkdailfcmnjlaaGreatDoorCompiles04
import Derived.Test.YtfkdailfcmnjlaaGreatDoorCompiles05
import Derived.Test.YtfkdailfcmnjlaaGreatDoorCompiles06
import Derived.Test.YtfkdailfcmnjlaaGreatDoorCompiles07
import Derived.Deep.RegionHeld3
import Derived.Deep.DrawnRows
import Derived.WalkKit
import Derived.Deep.QuietTactic
import Derived.BigQuiet
import Derived.WalkSpells
import GoSem.Op.String
import Derived.Deep.AppendLies
set_option linter.unusedVariables false
set_option linter.unusedSimpArgs false
namespace Go.Proofs.YtfkdailfcmnjlaaGreatDoor
open Go Go.RowKit
set_option maxRecDepth 100000
attribute [local go_sem ↓] Go.wp_at_zero Go.wp_at_succ

/-- Is the next word this keyword or sign? -/
def seesB (bad : Bool) (t : Tok) (s : List UInt8) : Bool := !bad && isW t s

set_option maxHeartbeats 2000000 in
theorem sees_raw (rb gl cl n i : Nat) (t : Tok) (bad : Bool) (s : List UInt8) (w : World) (hn : n ≤ 2000) (hin : i < n)
    (h0 : w.cell? ⟨rb, 0, none⟩ = some (.slice (some ⟨gl, 0, none⟩) n cl)) (h1 : w.cell? ⟨rb, 1, none⟩ = some (.int .i64 i)) (h3 : w.cell? ⟨rb, 3, none⟩ = some (.bool bad))
    (k0 : w.cell? ⟨gl, i * 3, none⟩ = some (.int .u8 t.k)) (k1 : w.cell? ⟨gl, i * 3 + 1, none⟩ = some (S t.text)) (k2 : w.cell? ⟨gl, i * 3 + 2, none⟩ = some (.int .i64 t.pl)) :
    Calls Tryz.prog 113 #[.pointer (some ⟨rb, 0, none⟩), S s] w fun e w' => e = .returned (.bool (seesB bad t s)) ∧ Below w.heap.size w w' := by
  have b1 : (0 : Int) ≤ (i : Int) := by omega
  have b2 : (i : Int) < (n : Int) := by omega
  have n0 := World.new_ne w _ h0
  have n1 := World.new_ne w _ h1
  have n3 := World.new_ne w _ h3
  have m0 := World.new_ne w _ k0
  have m1 := World.new_ne w _ k1
  have m2 := World.new_ne w _ k2
  go_enter Tryz.func113, Tryz.ntmps113
  go_wp2_with fail
  go_region_held (fun w' => w'.cell? ⟨rb, 0, none⟩ = some (.slice (some ⟨gl, 0, none⟩) n cl) ∧ w'.cell? ⟨rb, 1, none⟩ = some (.int .i64 i) ∧ w'.cell? ⟨rb, 3, none⟩ = some (.bool bad) ∧ w'.cell? ⟨gl, i * 3, none⟩ = some (.int .u8 t.k) ∧ w'.cell? ⟨gl, i * 3 + 1, none⟩ = some (S t.text) ∧ w'.cell? ⟨gl, i * 3 + 2, none⟩ = some (.int .i64 t.pl)) (go_keep) (fail)
  cases bad
  all_goals go_wp2
  all_goals go_ret
  all_goals exact ⟨ret_bool (by simp [seesB, isW]; try omega), ((Below.refl _ _).alloc (Nat.le_refl _) _).drew⟩

/-- A part of a condition: its word, the places of the parts under it, its number; and the list of places as it lies in memory. -/
structure PartS where
  tok : Tok
  subs : List Nat
  n : Int
  sv : Value

def partCells (ps : List PartS) : List Value := ps.flatMap fun p => [.int .u8 p.tok.k, S p.tok.text, .int .i64 p.tok.pl, p.sv, .int .i64 p.n]
theorem partCells_snoc (ps : List PartS) (p : PartS) : partCells (ps ++ [p]) = partCells ps ++ [.int .u8 p.tok.k, S p.tok.text, .int .i64 p.tok.pl, p.sv, .int .i64 p.n] := by simp [partCells]

def intRow (l : List Nat) : Array Value := (l.map fun x : Nat => Value.int .i64 (x : Int)).toArray

/-- The list of places lies in memory. -/
def SubsOK (w : World) (p : PartS) : Prop := (p.subs = [] ∧ p.sv = .slice none 0 0) ∨ ∃ sb, p.sv = .slice (some ⟨sb, 0, none⟩) p.subs.length p.subs.length ∧ w.heap[sb]? = some (.cells (intRow p.subs) 3 (0, 0))

/-- The reader's state. -/
structure St where
  i : Nat
  pv : Value
  ps : List PartS
  bad : Bool


/-- The reader in memory. -/
structure RS (B rb gl cl : Nat) (ts : List Tok) (s : St) (w : World) : Prop where
  rd : w.heap[rb]? = some (.cells #[.slice (some ⟨gl, 0, none⟩) ts.length cl, .int .i64 s.i, s.pv, .bool s.bad] 149 (0, 0))
  words : w.ownsRow B 151 3 (.slice (some ⟨gl, 0, none⟩) ts.length cl) ts.length (tokCells ts)
  parts : w.ownsRow B 169 5 s.pv s.ps.length (partCells s.ps)
  subs : ∀ p ∈ s.ps, SubsOK w p
  hb : B ≤ rb
  hi : s.i < ts.length
  hn : ts.length ≤ 1001
  fin : ∀ i, i + 1 = ts.length → (ts.getD i noTok).k = 101
  few : s.ps.length ≤ s.i

/-- What a method may have turned: the reader, its parts' row; the new row is the old one or a new block. -/
structure Fr (rb : Nat) (pv pv' : Value) (w w' : World) : Prop where
  os : w'.os = w.os
  tape : w'.tape = w.tape
  output : w'.output = w.output
  size : w.heap.size ≤ w'.heap.size
  block : ∀ k, k < w.heap.size → k ≠ rb → some k ≠ pv.ownBlock → w'.heap[k]? = w.heap[k]?
  own : pv'.ownBlock = pv.ownBlock ∨ ∃ g, pv'.ownBlock = some g ∧ w.heap.size ≤ g

theorem Fr.refl (rb : Nat) (pv : Value) (w : World) : Fr rb pv pv w w := ⟨rfl, rfl, rfl, Nat.le_refl _, fun _ _ _ _ => rfl, .inl rfl⟩
theorem Fr.trans {rb : Nat} {pv pv1 pv2 : Value} {w w1 w2 : World} (h : Fr rb pv pv1 w w1) (k : Fr rb pv1 pv2 w1 w2) : Fr rb pv pv2 w w2 := by
  refine ⟨k.os.trans h.os, k.tape.trans h.tape, k.output.trans h.output, Nat.le_trans h.size k.size, ?_, ?_⟩
  · intro i hi h1 h2
    rw [k.block i (Nat.lt_of_lt_of_le hi h.size) h1 ?_, h.block i hi h1 h2]
    rcases h.own with e | ⟨g, e, hg⟩
    · rw [e]; exact h2
    · rw [e]; intro hh; simp at hh; omega
  · rcases k.own with e | ⟨g, e, hg⟩
    · rw [e]; exact h.own
    · exact .inr ⟨g, e, Nat.le_trans h.size hg⟩
theorem Fr.of_below {rb : Nat} {pv : Value} {w w' : World} (h : Below w.heap.size w w') : Fr rb pv pv w w' :=
  ⟨h.os, h.tape, h.output, h.size, fun k hk _ _ => h.block k hk, .inl rfl⟩
theorem Fr.set {rb : Nat} {pv pv' : Value} {w w' : World} (h : Fr rb pv pv' w w') (hr : rb < w.heap.size) (i : Nat) (v : Value) : Fr rb pv pv' w (w'.setCell ⟨rb, i, none⟩ v) :=
  ⟨h.os, h.tape, h.output, by simpa using h.size, fun k hk h1 h2 => by rw [Below.heap_setCell _ _ _ _ (by exact h1)]; exact h.block k hk h1 h2, h.own⟩

theorem lt_of_get {w : World} {k : Nat} {o : Obj} (h : w.heap[k]? = some o) : k < w.heap.size := by
  rcases Nat.lt_or_ge k w.heap.size with hlt | hge
  · exact hlt
  · rw [Array.getElem?_eq_none hge] at h; cases h

theorem ownsRow_of_block {w w' : World} {base : Nat} {e : TypeId} {size : Nat} {v : Value} {n : Nat} {xs : List Value} (h : w.ownsRow base e size v n xs) (hb : ∀ k, v.ownBlock = some k → w'.heap[k]? = w.heap[k]?) : w'.ownsRow base e size v n xs := by
  obtain ⟨h1, h2⟩ := h
  refine ⟨h1, ?_⟩
  rcases h2 with h2 | ⟨g, cap, cur, a, b, c, d⟩
  · exact .inl h2
  · exact .inr ⟨g, cap, cur, a, b, by rw [hb g (by rw [a]; rfl)]; exact c, d⟩

theorem ownsRow_type {w : World} {base : Nat} {e : TypeId} {size : Nat} {v : Value} {n : Nat} {xs : List Value} (h : w.ownsRow base e size v n xs) {k : Nat} (hk : v.ownBlock = some k) : ∃ cs, w.heap[k]? = some (.cells cs e (0, 0)) := by
  rcases h.2 with ⟨h2, _⟩ | ⟨g, cap, cur, a, b, c, d⟩
  · rw [h2] at hk; cases hk
  · rw [a] at hk; simp [Value.ownBlock] at hk; subst hk; exact ⟨cur, c⟩

theorem RS.below {B rb gl cl : Nat} {ts : List Tok} {s : St} {w w' : World} (h : RS B rb gl cl ts s w) (hb : Below w.heap.size w w') : RS B rb gl cl ts s w' := by
  refine ⟨?_, ownsRow_below h.words hb, ownsRow_below h.parts hb, ?_, h.hb, h.hi, h.hn, h.fin, h.few⟩
  · rw [hb.block rb (lt_of_get h.rd)]; exact h.rd
  · intro p hp
    rcases h.subs p hp with e | ⟨sb, e, hh⟩
    · exact .inl e
    · exact .inr ⟨sb, e, by rw [hb.block sb (lt_of_get hh)]; exact hh⟩

/-- A store into the reader's own cells. -/
theorem RS.set {B rb gl cl : Nat} {ts : List Tok} {s : St} {w : World} (h : RS B rb gl cl ts s w) (j : Nat) (v : Value) (s' : St)
    (he : (#[.slice (some ⟨gl, 0, none⟩) ts.length cl, .int .i64 s.i, s.pv, .bool s.bad] : Array Value).setIfInBounds j v = #[.slice (some ⟨gl, 0, none⟩) ts.length cl, .int .i64 s'.i, s'.pv, .bool s'.bad])
    (hps : s'.ps = s.ps) (hpv : s'.pv = s.pv) (hi : s'.i < ts.length) (hf : s'.ps.length ≤ s'.i) : RS B rb gl cl ts s' (w.setCell ⟨rb, j, none⟩ v) := by
  have ho : ∀ k, k ≠ rb → (w.setCell ⟨rb, j, none⟩ v).heap[k]? = w.heap[k]? := fun k hk => Below.heap_setCell _ _ _ _ hk
  refine ⟨?_, ?_, ?_, ?_, h.hb, hi, h.hn, h.fin, hf⟩
  · rw [heap_setCell_same w rb j _ _ v h.rd, he]
  · refine ownsRow_of_block h.words fun k hk => ho k fun e => ?_
    subst e
    obtain ⟨cs, hc⟩ := ownsRow_type h.words hk
    rw [h.rd] at hc; simp at hc
  · rw [hps, hpv]
    refine ownsRow_of_block h.parts fun k hk => ho k fun e => ?_
    subst e
    obtain ⟨cs, hc⟩ := ownsRow_type h.parts hk
    rw [h.rd] at hc; simp at hc
  · rw [hps]
    intro p hp
    rcases h.subs p hp with e | ⟨sb, e, hh⟩
    · exact .inl e
    · refine .inr ⟨sb, e, ?_⟩
      rw [ho sb (fun e => by subst e; rw [h.rd] at hh; simp at hh)]; exact hh

theorem tokCells_at (ts : List Tok) (i : Nat) (hi : i < ts.length) : (tokCells ts)[i * 3]? = some (.int .u8 (ts.getD i noTok).k) ∧ (tokCells ts)[i * 3 + 1]? = some (S (ts.getD i noTok).text) ∧ (tokCells ts)[i * 3 + 2]? = some (.int .i64 (ts.getD i noTok).pl) := by
  induction ts generalizing i with
  | nil => simp at hi
  | cons t ts ih =>
    cases i with
    | zero => simp [tokCells]
    | succ i =>
      have := ih i (by simpa using hi)
      have e : tokCells (t :: ts) = [.int .u8 t.k, S t.text, .int .i64 t.pl] ++ tokCells ts := rfl
      rw [e, show (i + 1) * 3 = i * 3 + 1 + 1 + 1 from by omega, show i * 3 + 1 + 1 + 1 + 1 = i * 3 + 1 + 1 + 1 + 1 from rfl, show i * 3 + 1 + 1 + 1 + 2 = i * 3 + 2 + 1 + 1 + 1 from by omega]
      simpa using this

theorem RS.word {B rb gl cl : Nat} {ts : List Tok} {s : St} {w : World} (h : RS B rb gl cl ts s w) (i : Nat) (hi : i < ts.length) :
    w.cell? ⟨gl, i * 3, none⟩ = some (.int .u8 (ts.getD i noTok).k) ∧ w.cell? ⟨gl, i * 3 + 1, none⟩ = some (S (ts.getD i noTok).text) ∧ w.cell? ⟨gl, i * 3 + 2, none⟩ = some (.int .i64 (ts.getD i noTok).pl) := by
  have hc := h.words.cells (g := gl) rfl
  obtain ⟨a, b, c⟩ := tokCells_at ts i hi
  have ha : ∀ j, (⟨gl, 0, none⟩ : Addr).add j = ⟨gl, j, none⟩ := fun j => by unfold Addr.add; split <;> simp_all
  have h0 := hc _ _ a; have h1 := hc _ _ b; have h2 := hc _ _ c
  rw [ha] at h0 h1 h2
  exact ⟨h0, h1, h2⟩

theorem RS.cells {B rb gl cl : Nat} {ts : List Tok} {s : St} {w : World} (h : RS B rb gl cl ts s w) :
    w.cell? ⟨rb, 0, none⟩ = some (.slice (some ⟨gl, 0, none⟩) ts.length cl) ∧ w.cell? ⟨rb, 1, none⟩ = some (.int .i64 s.i) ∧ w.cell? ⟨rb, 2, none⟩ = some s.pv ∧ w.cell? ⟨rb, 3, none⟩ = some (.bool s.bad) := by
  have hc := fun j => cell_of_row w rb j _ _ _ h.rd
  exact ⟨hc 0, hc 1, hc 2, hc 3⟩
theorem RS.free {B rb gl cl : Nat} {ts : List Tok} {s : St} {w : World} (h : RS B rb gl cl ts s w) (j : Nat) : w.frozen? ⟨rb, j, none⟩ = false := by
  simp [World.frozen?, h.rd]


theorem sees_any {B rb gl cl : Nat} {ts : List Tok} {s : St} {w : World} (h : RS B rb gl cl ts s w) (x : List UInt8) :
    Calls Tryz.prog 113 #[.pointer (some ⟨rb, 0, none⟩), S x] w fun e w' => e = .returned (.bool (seesB s.bad (tokAt ts s.i) x)) ∧ Below w.heap.size w w' := by
  obtain ⟨c0, c1, _, c3⟩ := h.cells
  obtain ⟨k0, k1, k2⟩ := h.word s.i h.hi
  exact sees_raw rb gl cl ts.length s.i (tokAt ts s.i) s.bad x w (by have := h.hn; omega) h.hi c0 c1 c3 k0 k1 k2
end Go.Proofs.YtfkdailfcmnjlaaGreatDoor
