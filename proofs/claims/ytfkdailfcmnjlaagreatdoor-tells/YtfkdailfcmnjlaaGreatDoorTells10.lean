/-
  The reference's reader: 'adds'. The reference's reader of conditions: what its recursive methods do, by the plain reader's calls. The reference's method 'condition' answers as the plain reader does, if what it calls does. The reference's method 'item' at rules. The reference's method 'item' whole; its function 'depth'. The reference's methods 'let' and 'many'. The reference's method 'typeOf'. The reference's function 'read', as far as its words and items go. The reference's function 'read': its items. What is known of the words of a text, and of a policy that the plain reader read. The reference's functions 'read' and 'Check' answer as the plain reading does, of every text. What a policy says of an event: plain Lean functions; the document's scalars. The program's values: scalars. The program's small functions of bytes and words answer as plain Lean functions do. The program's function 'name' answers as the plain lexer does. The program's function 'sign' answers as the plain lexer does. The program's sums and differences stay within 64 bits. The document's 'tens': a number's digits.
-/
import Derived.Test.YtfkdailfcmnjlaaGreatDoorTells01
import Derived.Test.YtfkdailfcmnjlaaGreatDoorTells02
import Derived.Test.YtfkdailfcmnjlaaGreatDoorTells04
import Derived.Test.YtfkdailfcmnjlaaGreatDoorTells05
import Derived.Test.YtfkdailfcmnjlaaGreatDoorTells06
import Derived.Test.YtfkdailfcmnjlaaGreatDoorTells07
import Derived.Test.YtfkdailfcmnjlaaGreatDoorTells08
import Derived.Test.YtfkdailfcmnjlaaGreatDoorTells09
import Derived.Deep.RegionLaw
import Derived.WalkKit
import Derived.Deep.QuietTactic
import Derived.BigQuiet
import Derived.WalkSpells
import GoSem.Op.String
import Derived.Deep.AppendLies
import Derived.Deep.RegionHeld3
import Derived.Deep.DrawnRows
import Derived.Deep.RegionHeldLaw
set_option linter.unusedVariables false
set_option linter.unusedSimpArgs false
namespace Go.Proofs.YtfkdailfcmnjlaaGreatDoor
open Go Go.RowKit
set_option maxRecDepth 100000
attribute [local go_sem ↓] Go.wp_at_zero Go.wp_at_succ

theorem SubsOK.one {w : World} {p : PartS} (h : SubsOK w p) : p.sv.oneCell' = true := by
  rcases h with ⟨_, e⟩ | ⟨sb, e, _⟩ <;> rw [e] <;> rfl

theorem SubsOK.of {w w' : World} {p : PartS} (h : SubsOK w p) (hb : ∀ (k : Nat) (cs : Array Value), w.heap[k]? = some (.cells cs 3 (0, 0)) → w'.heap[k]? = w.heap[k]?) : SubsOK w' p := by
  rcases h with e | ⟨sb, e, hh⟩
  · exact .inl e
  · exact .inr ⟨sb, e, by rw [hb sb _ hh]; exact hh⟩

end Go.Proofs.YtfkdailfcmnjlaaGreatDoor

namespace Go.Proofs.YtfkdailfcmnjlaaGreatDoor
open Go Go.RowKit
set_option maxRecDepth 100000
attribute [local go_sem ↓] Go.wp_at_zero Go.wp_at_succ

def toPt (p : PartS) : Pt := ⟨p.tok, p.subs⟩
end Go.Proofs.YtfkdailfcmnjlaaGreatDoor

namespace Go.Proofs.YtfkdailfcmnjlaaGreatDoor
open Go Go.RowKit
set_option maxRecDepth 100000
attribute [local go_sem ↓] Go.wp_at_zero Go.wp_at_succ

/-- A block that is neither the reader nor its parts' row stands. -/
theorem Fr.far {rb : Nat} {pv pv' : Value} {w w' : World} (h : Fr rb pv pv' w w') {k : Nat} {o : Obj} (hk : w.heap[k]? = some o) (h1 : k ≠ rb) (h2 : some k ≠ pv.ownBlock) : w'.heap[k]? = some o := by
  rw [h.block k (lt_of_get hk) h1 h2]; exact hk

/-- A block at or above what was there is none of the reader's parts' row. -/
theorem own_ne {B rb gl cl : Nat} {ts : List Tok} {s : St} {w : World} (h : RS B rb gl cl ts s w) {k : Nat} {o : Obj} (hk : w.heap[k]? = some o) (ht : ∀ cs, o ≠ .cells cs 169 (0, 0)) : some k ≠ s.pv.ownBlock := fun e => by
  obtain ⟨cs, hc⟩ := ownsRow_type h.parts e.symm
  rw [hk] at hc; simp at hc; exact ht cs hc

end Go.Proofs.YtfkdailfcmnjlaaGreatDoor

namespace Go.Proofs.YtfkdailfcmnjlaaGreatDoor
open Go Go.RowKit
set_option maxRecDepth 100000
attribute [local go_sem ↓] Go.wp_at_zero Go.wp_at_succ

theorem tail_split {f : Nat} {ts : List Tok} {i : Nat} {L : List Pt} {x : Itm} {r : ItR} (h : itemTail f ts i L x = some r) :
    ∃ a : Rd, P f 6 ts i L 0 = some a ∧ ((a.ok = true ∧ isW (tokAt ts a.i) [59] = true ∧ r = ⟨true, a.i + 1, a.L, { x with top := a.top, parts := a.L.length }⟩) ∨ (¬ (a.ok = true ∧ isW (tokAt ts a.i) [59] = true) ∧ r.ok = false ∧ r.i = a.i)) := by
  unfold itemTail at h
  cases ha : P f 6 ts i L 0 with
  | none => rw [ha] at h; simp at h
  | some a =>
    rw [ha] at h
    simp only at h
    refine ⟨a, rfl, ?_⟩
    by_cases hok : a.ok = true
    · rw [if_pos hok] at h
      by_cases ht : isW (tokAt ts a.i) [59] = true
      · rw [if_pos ht] at h; simp at h; exact .inl ⟨hok, ht, h.symm⟩
      · rw [if_neg ht] at h; simp [itFail] at h; subst h; exact .inr ⟨fun e => ht e.2, rfl, rfl⟩
    · rw [if_neg hok] at h; simp [itFail] at h; subst h; exact .inr ⟨fun e => hok e.1, rfl, rfl⟩
end Go.Proofs.YtfkdailfcmnjlaaGreatDoor

namespace Go.Proofs.YtfkdailfcmnjlaaGreatDoor
open Go Go.RowKit
set_option maxRecDepth 100000
attribute [local go_sem ↓] Go.wp_at_zero Go.wp_at_succ

/-- The parts lie in memory. -/
structure PartsIn (B g cap : Nat) (ps : List PartS) (w : World) : Prop where
  row : w.ownsRow B 169 5 (.slice (some ⟨g, 0, none⟩) ps.length cap) ps.length (partCells ps)
  subs : ∀ p ∈ ps, SubsOK w p
  few : ps.length ≤ 1001

def noPart : PartS := ⟨noTok, [], 0, .slice none 0 0⟩
theorem partCells_at (ps : List PartS) (i : Nat) (hi : i < ps.length) : (partCells ps)[i * 5]? = some (.int .u8 (ps.getD i noPart).tok.k) ∧ (partCells ps)[i * 5 + 1]? = some (S (ps.getD i noPart).tok.text) ∧ (partCells ps)[i * 5 + 2]? = some (.int .i64 (ps.getD i noPart).tok.pl) ∧ (partCells ps)[i * 5 + 3]? = some (ps.getD i noPart).sv ∧ (partCells ps)[i * 5 + 4]? = some (.int .i64 (ps.getD i noPart).n) := by
  induction ps generalizing i with
  | nil => simp at hi
  | cons t ps ih =>
    cases i with
    | zero => simp [partCells]
    | succ i =>
      have := ih i (by simpa using hi)
      have e : partCells (t :: ps) = [.int .u8 t.tok.k, S t.tok.text, .int .i64 t.tok.pl, t.sv, .int .i64 t.n] ++ partCells ps := rfl
      rw [e, show (i + 1) * 5 = i * 5 + 1 + 1 + 1 + 1 + 1 from by omega, show i * 5 + 1 + 1 + 1 + 1 + 1 + 2 = i * 5 + 2 + 1 + 1 + 1 + 1 + 1 from by omega, show i * 5 + 1 + 1 + 1 + 1 + 1 + 3 = i * 5 + 3 + 1 + 1 + 1 + 1 + 1 from by omega, show i * 5 + 1 + 1 + 1 + 1 + 1 + 4 = i * 5 + 4 + 1 + 1 + 1 + 1 + 1 from by omega, show i * 5 + 1 + 1 + 1 + 1 + 1 + 1 = i * 5 + 1 + 1 + 1 + 1 + 1 + 1 from rfl]
      simpa using this
theorem PartsIn.cells {B g cap : Nat} {ps : List PartS} {w : World} (h : PartsIn B g cap ps w) (i : Nat) (hi : i < ps.length) :
    w.cell? ⟨g, i * 5, none⟩ = some (.int .u8 (ps.getD i noPart).tok.k) ∧ w.cell? ⟨g, i * 5 + 1, none⟩ = some (S (ps.getD i noPart).tok.text) ∧ w.cell? ⟨g, i * 5 + 2, none⟩ = some (.int .i64 (ps.getD i noPart).tok.pl) ∧ w.cell? ⟨g, i * 5 + 3, none⟩ = some (ps.getD i noPart).sv ∧ w.cell? ⟨g, i * 5 + 4, none⟩ = some (.int .i64 (ps.getD i noPart).n) := by
  have hc := h.row.cells (g := g) rfl
  obtain ⟨a, b, c, d, e⟩ := partCells_at ps i hi
  have ha : ∀ j, (⟨g, 0, none⟩ : Addr).add j = ⟨g, j, none⟩ := fun j => by unfold Addr.add; split <;> simp_all
  have h0 := hc _ _ a; have h1 := hc _ _ b; have h2 := hc _ _ c; have h3 := hc _ _ d; have h4 := hc _ _ e
  rw [ha] at h0 h1 h2 h3 h4
  exact ⟨h0, h1, h2, h3, h4⟩
theorem PartsIn.below {B g cap : Nat} {ps : List PartS} {w w' : World} (h : PartsIn B g cap ps w) (hb : Below w.heap.size w w') : PartsIn B g cap ps w' :=
  ⟨ownsRow_below h.row hb, fun p hp => (h.subs p hp).of fun k _ hk => hb.block k (lt_of_get hk), h.few⟩
end Go.Proofs.YtfkdailfcmnjlaaGreatDoor

namespace Go.Proofs.YtfkdailfcmnjlaaGreatDoor
open Go Go.RowKit
set_option maxRecDepth 100000

def itmCells (xs : List Itm) : List Value := xs.flatMap fun x => [S x.name, .bool x.allow, .int .i64 x.top, .int .i64 x.pl, .int .i64 x.named, .int .i64 x.parts]
theorem itmCells_at (xs : List Itm) (i : Nat) (hi : i < xs.length) : (itmCells xs)[i * 6]? = some (S xs[i].name) ∧ (itmCells xs)[i * 6 + 1]? = some (.bool xs[i].allow) ∧ (itmCells xs)[i * 6 + 2]? = some (.int .i64 xs[i].top) ∧ (itmCells xs)[i * 6 + 3]? = some (.int .i64 xs[i].pl) ∧ (itmCells xs)[i * 6 + 4]? = some (.int .i64 xs[i].named) ∧ (itmCells xs)[i * 6 + 5]? = some (.int .i64 xs[i].parts) := by
  induction xs generalizing i with
  | nil => simp at hi
  | cons t xs ih =>
    cases i with
    | zero => simp [itmCells]
    | succ i =>
      have := ih i (by simpa using hi)
      have e : itmCells (t :: xs) = [S t.name, .bool t.allow, .int .i64 t.top, .int .i64 t.pl, .int .i64 t.named, .int .i64 t.parts] ++ itmCells xs := rfl
      rw [e, show (i + 1) * 6 = i * 6 + 1 + 1 + 1 + 1 + 1 + 1 from by omega, show i * 6 + 1 + 1 + 1 + 1 + 1 + 1 + 2 = i * 6 + 2 + 1 + 1 + 1 + 1 + 1 + 1 from by omega, show i * 6 + 1 + 1 + 1 + 1 + 1 + 1 + 3 = i * 6 + 3 + 1 + 1 + 1 + 1 + 1 + 1 from by omega, show i * 6 + 1 + 1 + 1 + 1 + 1 + 1 + 4 = i * 6 + 4 + 1 + 1 + 1 + 1 + 1 + 1 from by omega, show i * 6 + 1 + 1 + 1 + 1 + 1 + 1 + 5 = i * 6 + 5 + 1 + 1 + 1 + 1 + 1 + 1 from by omega]
      simpa using this

/-- The items lie in memory. -/
structure ItemsIn (B : Nat) (iv : Value) (xs : List Itm) (w : World) : Prop where
  row : w.ownsRow B 95 6 iv xs.length (itmCells xs)
  few : xs.length ≤ 1001
theorem ItemsIn.below {B : Nat} {iv : Value} {xs : List Itm} {w w' : World} (h : ItemsIn B iv xs w) (hb : Below w.heap.size w w') : ItemsIn B iv xs w' := ⟨ownsRow_below h.row hb, h.few⟩
theorem ItemsIn.form {B : Nat} {iv : Value} {xs : List Itm} {w : World} (h : ItemsIn B iv xs w) : (iv = .slice none 0 0 ∧ xs.length = 0) ∨ ∃ g c, iv = .slice (some ⟨g, 0, none⟩) xs.length c := by
  rcases h.row.2 with e | ⟨g, cap, cur, e, _⟩
  · exact .inl e
  · exact .inr ⟨g, cap, e⟩
theorem ItemsIn.cells {B g c : Nat} {xs : List Itm} {w : World} (h : ItemsIn B (.slice (some ⟨g, 0, none⟩) xs.length c) xs w) (i : Nat) (hi : i < xs.length) :
    w.cell? ⟨g, i * 6, none⟩ = some (S xs[i].name) ∧ w.cell? ⟨g, i * 6 + 1, none⟩ = some (.bool xs[i].allow) ∧ w.cell? ⟨g, i * 6 + 2, none⟩ = some (.int .i64 xs[i].top) ∧ w.cell? ⟨g, i * 6 + 3, none⟩ = some (.int .i64 xs[i].pl) ∧ w.cell? ⟨g, i * 6 + 4, none⟩ = some (.int .i64 xs[i].named) ∧ w.cell? ⟨g, i * 6 + 5, none⟩ = some (.int .i64 xs[i].parts) := by
  have hc := h.row.cells (g := g) rfl
  obtain ⟨a, b, c, d, e, f⟩ := itmCells_at xs i hi
  have ha : ∀ j, (⟨g, 0, none⟩ : Addr).add j = ⟨g, j, none⟩ := fun j => by unfold Addr.add; split <;> simp_all
  have h0 := hc _ _ a; have h1 := hc _ _ b; have h2 := hc _ _ c; have h3 := hc _ _ d; have h4 := hc _ _ e; have h5 := hc _ _ f
  rw [ha] at h0 h1 h2 h3 h4 h5
  exact ⟨h0, h1, h2, h3, h4, h5⟩

end Go.Proofs.YtfkdailfcmnjlaaGreatDoor

namespace Go.Proofs.YtfkdailfcmnjlaaGreatDoor
open Go Go.RowKit
set_option maxRecDepth 100000
attribute [local go_sem ↓] Go.wp_at_zero Go.wp_at_succ

def byteCells (l : List UInt8) : List Value := l.map fun c => Value.int .u8 (c.toNat : Int)
/-- The policy lies in memory, and the types of the items so far. -/
structure PolIn (B gi c g cap : Nat) (xs : List Itm) (ps : List PartS) (bv : Value) (its : List UInt8) (w : World) : Prop where
  items : ItemsIn B (.slice (some ⟨gi, 0, none⟩) xs.length c) xs w
  parts : PartsIn B g cap ps w
  bytes : w.ownsRow B 5 1 bv its.length (byteCells its)
  len : its.length ≤ xs.length
theorem PolIn.below {B gi c g cap : Nat} {xs : List Itm} {ps : List PartS} {bv : Value} {its : List UInt8} {w w' : World} (h : PolIn B gi c g cap xs ps bv its w) (hb : Below w.heap.size w w') : PolIn B gi c g cap xs ps bv its w' :=
  ⟨h.items.below hb, h.parts.below hb, ownsRow_below h.bytes hb, h.len⟩

theorem idx_lt (l : List (List UInt8)) (s : List UInt8) : idx l s < l.length := by
  induction l with
  | nil => simp [idx]
  | cons x r ih => unfold idx; simp only [List.length_cons]; split; omega; split <;> omega

end Go.Proofs.YtfkdailfcmnjlaaGreatDoor

namespace Go.Proofs.YtfkdailfcmnjlaaGreatDoor
open Go Go.RowKit
set_option maxRecDepth 100000
attribute [local go_sem ↓] Go.wp_at_zero Go.wp_at_succ

abbrev polV (iv pv : Value) : Obj := .cells #[iv, pv] 90

/-- The policy that was read lies in memory. -/
structure PolOut (B : Nat) (L : List Pt) (xs : List Itm) (iv pv : Value) (w : World) : Prop where
  items : ItemsIn B iv xs w
  parts : ∃ ps : List PartS, w.ownsRow B 169 5 pv ps.length (partCells ps) ∧ (∀ p ∈ ps, SubsOK w p) ∧ ps.length ≤ 1001 ∧ (∀ p ∈ ps, p.n = numOf p.tok) ∧ ps.map toPt = L

/-- What 'read' answers: the policy, the error, the place. -/
def ReadAns (n k : Nat) (L : List Pt) (xs : List Itm) (w : World) (e : Ending) (w' : World) : Prop :=
  Below w.heap.size w w' ∧ ∃ iv pv, e = .returned (.tuple #[.agg #[iv, pv], .int .i64 n, .int .i64 k]) ∧ (∃ a b c, iv = .slice a b c) ∧ (∃ a b c, pv = .slice a b c) ∧ (n ≠ 0 → iv = .slice none 0 0 ∧ pv = .slice none 0 0) ∧ (n = 0 → PolOut w.heap.size L xs iv pv w')

end Go.Proofs.YtfkdailfcmnjlaaGreatDoor

namespace Go.Proofs.YtfkdailfcmnjlaaGreatDoor
open Go Go.RowKit
set_option maxRecDepth 100000
attribute [local go_sem ↓] Go.wp_at_zero Go.wp_at_succ

/-- A reader stands where blocks of other types alone have turned. -/
theorem RS.types {B rb gl cl : Nat} {ts : List Tok} {s : St} {w w' : World} (h : RS B rb gl cl ts s w) (ho : ∀ (k : Nat) (cs : Array Value) (e : TypeId), w.heap[k]? = some (.cells cs e (0, 0)) → e ≠ 95 → e ≠ 90 → w'.heap[k]? = w.heap[k]?) : RS B rb gl cl ts s w' := by
  refine ⟨?_, ?_, ?_, ?_, h.hb, h.hi, h.hn, h.fin, h.few⟩
  · rw [ho _ _ _ h.rd (by decide) (by decide)]; exact h.rd
  · refine ownsRow_of_block h.words fun k hk => ?_
    obtain ⟨cs', hc⟩ := ownsRow_type h.words hk
    exact ho k cs' _ hc (by decide) (by decide)
  · refine ownsRow_of_block h.parts fun k hk => ?_
    obtain ⟨cs', hc⟩ := ownsRow_type h.parts hk
    exact ho k cs' _ hc (by decide) (by decide)
  · intro p hp
    exact (h.subs p hp).of fun k cs' hk => ho k cs' _ hk (by decide) (by decide)

theorem Fr.row {B rb gl cl : Nat} {ts : List Tok} {s s' : St} {w w' : World} (h : RS B rb gl cl ts s w) (hF : Fr rb s.pv s'.pv w w') {base : Nat} {v : Value} {n : Nat} {ys : List Value} (hr : w.ownsRow base 95 6 v n ys) : w'.ownsRow base 95 6 v n ys := by
  refine ownsRow_of_block hr fun k hk => ?_
  obtain ⟨cs, hc⟩ := ownsRow_type hr hk
  refine hF.block k (lt_of_get hc) (fun e => ?_) (own_ne h hc (by simp))
  subst e; rw [h.rd] at hc; simp at hc

/-- Behind the items: the policy lies in its box. -/
structure Held (w : World) (xs : List Itm) (ps : List PartS) (iv pv : Value) (W : World) : Prop where
  below : Below w.heap.size w W
  res : W.heap[w.heap.size]? = some (polV (.slice none 0 0) (.slice none 0 0))
  pol : W.heap[w.heap.size + 1]? = some (polV iv pv)
  items : ItemsIn w.heap.size iv xs W
  row : W.ownsRow w.heap.size 169 5 pv ps.length (partCells ps)
  subs : ∀ p ∈ ps, SubsOK W p
  few : ps.length ≤ 1001
theorem Held.next {w : World} {xs : List Itm} {ps : List PartS} {iv pv : Value} {W W' : World} (h : Held w xs ps iv pv W) (hb : Below W.heap.size W W') : Held w xs ps iv pv W' :=
  ⟨h.below.trans (hb.mono h.below.size), by rw [hb.block _ (lt_of_get h.res)]; exact h.res, by rw [hb.block _ (lt_of_get h.pol)]; exact h.pol, h.items.below hb, ownsRow_below h.row hb, fun p hp => (h.subs p hp).of fun k _ hk => hb.block k (lt_of_get hk), h.few⟩
theorem Held.cells {w : World} {xs : List Itm} {ps : List PartS} {iv pv : Value} {W : World} (h : Held w xs ps iv pv W) :
    (W.cell? ⟨w.heap.size, 0, none⟩ = some (.slice none 0 0) ∧ W.cell? ⟨w.heap.size, 1, none⟩ = some (.slice none 0 0) ∧ W.cell? ⟨w.heap.size + 1, 0, none⟩ = some iv ∧ W.cell? ⟨w.heap.size + 1, 1, none⟩ = some pv) ∧ (∀ j, W.frozen? ⟨w.heap.size, j, none⟩ = false) := by
  have h1 := fun j => cell_of_row W w.heap.size j _ _ _ h.res
  have h2 := fun j => cell_of_row W (w.heap.size + 1) j _ _ _ h.pol
  exact ⟨⟨h1 0, h1 1, h2 0, h2 1⟩, fun j => by simp [World.frozen?, h.res]⟩
/-- The answer, where all went well. -/
theorem Held.out {w : World} {xs : List Itm} {ps : List PartS} {a a' : Option Addr} {b c b' c' : Nat} {W : World} (h : Held w xs ps (.slice a b c) (.slice a' b' c') W) (hn : ∀ p ∈ ps, p.n = numOf p.tok) :
    ReadAns 0 0 (ps.map toPt) xs w (.returned (.tuple #[.agg #[.slice a b c, .slice a' b' c'], .int .i64 (0 : Nat), .int .i64 (0 : Nat)])) ((W.setCell ⟨w.heap.size, 0, none⟩ (.slice a b c)).setCell ⟨w.heap.size, 1, none⟩ (.slice a' b' c')) := by
  have hty : ∀ (k : Nat) (cs : Array Value) (e : TypeId), W.heap[k]? = some (.cells cs e (0, 0)) → e ≠ 90 → ((W.setCell ⟨w.heap.size, 0, none⟩ (.slice a b c)).setCell ⟨w.heap.size, 1, none⟩ (.slice a' b' c')).heap[k]? = W.heap[k]? := fun k cs e hk he => by
    have hne : k ≠ w.heap.size := fun hh => by subst hh; rw [h.res] at hk; simp at hk; exact he hk.2.symm
    rw [Below.heap_setCell _ _ _ _ hne, Below.heap_setCell _ _ _ _ hne]
  refine ⟨(h.below.setCell (p := ⟨w.heap.size, 0, none⟩) (Nat.le_refl _) _).setCell (p := ⟨w.heap.size, 1, none⟩) (Nat.le_refl _) _, _, _, rfl, ⟨_, _, _, rfl⟩, ⟨_, _, _, rfl⟩, fun e => absurd rfl e, fun _ => ⟨⟨?_, h.items.few⟩, ps, ?_, ?_, h.few, hn, rfl⟩⟩
  · refine ownsRow_of_block h.items.row fun k hk => ?_
    obtain ⟨cs, hc⟩ := ownsRow_type h.items.row hk
    exact hty k cs _ hc (by decide)
  · refine ownsRow_of_block h.row fun k hk => ?_
    obtain ⟨cs, hc⟩ := ownsRow_type h.row hk
    exact hty k cs _ hc (by decide)
  · intro p hp
    exact (h.subs p hp).of fun k cs hk => hty k cs _ hk (by decide)
end Go.Proofs.YtfkdailfcmnjlaaGreatDoor

namespace Go.Proofs.YtfkdailfcmnjlaaGreatDoor

theorem wordAt_ok {l : List UInt8} {a : Nat} {t : Tok} (hl : l.length ≤ 1000) (ha : a < l.length) (h : wordAt l a = some t) : t.k ≠ 101 ∧ TokOK t := by
  have hlen := wordAt_len ha h
  refine ⟨?_, by omega, ?_⟩
  · unfold wordAt at h
    rw [List.getElem?_eq_getElem ha] at h
    simp only at h
    repeat' split at h
    all_goals first
      | (simp at h; subst h; simp)
      | (simp at h)
  · intro hk
    unfold wordAt at h
    split at h
    · split at h
      · simp at h
      · rename_i hb
        simp at h; subst h
        refine ⟨cut_stop isD l a, ?_⟩
        unfold big at hb; simpa using hb
    · exfalso
      rw [List.getElem?_eq_getElem ha] at h
      simp only at h
      repeat' split at h
      all_goals first
        | (simp at h; subst h; simp at hk)
        | (simp at h)

theorem lex_ok (l : List UInt8) (hl : l.length ≤ 1000) (f : Nat) : ∀ (a : Nat) (ts : List Tok), a ≤ l.length → l.length - a < f → lex f l a = (ts, none) →
    0 < ts.length ∧ ts.length ≤ l.length - a + 1 ∧ (∀ t ∈ ts, TokOK t) ∧ (∀ i, i + 1 = ts.length → (ts.getD i noTok).k = 101) ∧ (∀ i, i + 1 < ts.length → (ts.getD i noTok).k ≠ 101) := by
  induction f with
  | zero => intro a ts _ h; omega
  | succ f ih =>
    intro a ts ha hf h
    have h1 := stop_ge isB l a
    have h2 := stop_le isB l a ha
    rw [lex] at h
    by_cases he : l.length ≤ stop isB l a
    · rw [if_pos he] at h; simp at h; subst h
      refine ⟨by simp, by simp, ?_, ?_, ?_⟩
      · intro t ht; simp at ht; subst ht; exact ⟨by simp, fun e => by simp at e⟩
      · intro i hi; simp at hi; subst hi; rfl
      · intro i hi; simp at hi
    · rw [if_neg he] at h
      cases hw : wordAt l (stop isB l a) with
      | none => rw [hw] at h; simp at h
      | some t =>
        rw [hw] at h
        simp only [Prod.mk.injEq] at h
        obtain ⟨rfl, hn⟩ := h
        have hlen := wordAt_len (by omega) hw
        have hok := wordAt_ok hl (by omega) hw
        have := ih (stop isB l a + t.text.length) (lex f l (stop isB l a + t.text.length)).1 (by omega) (by omega) (by rw [← hn])
        obtain ⟨r1, r2, r3, r4, r5⟩ := this
        refine ⟨by simp, by simp; omega, ?_, ?_, ?_⟩
        · intro u hu; simp at hu; rcases hu with rfl | hu
          · exact hok.2
          · exact r3 u hu
        · intro i hi
          cases i with
          | zero => simp only [List.length_cons] at hi; omega
          | succ i => simpa using r4 i (by simpa using hi)
        · intro i hi
          cases i with
          | zero => simpa using hok.1
          | succ i => simpa using r5 i (by simpa using hi)

theorem item_kept {F : Nat} {ts : List Tok} {i : Nat} {L : List Pt} {r : ItR} (h : itemP F ts i L = some r) (ok : r.ok = true) :
    i < r.i ∧ (∃ new, r.L = L ++ new) ∧ Inv L.length r.L ∧ L.length ≤ r.it.top ∧ r.it.top < r.L.length ∧ r.it.parts = r.L.length := by
  have tail : ∀ (j : Nat) (x : Itm), i < j → itemTail F ts j L x = some r → i < r.i ∧ (∃ new, r.L = L ++ new) ∧ Inv L.length r.L ∧ L.length ≤ r.it.top ∧ r.it.top < r.L.length ∧ r.it.parts = r.L.length := by
    intro j x hj hr
    obtain ⟨a, ha, hres⟩ := tail_split hr
    rcases hres with ⟨oka, hw, rfl⟩ | ⟨_, hr1, _⟩
    · have k := P_kept F 6 ts j L 0 L.length a ha oka (Nat.le_refl _) (fun k h1 h2 => by omega) (by omega) (by omega)
      have f1 := k.fwd
      exact ⟨by simp; omega, k.more, k.inv, k.top.1, k.top.2, rfl⟩
    · rw [hr1] at ok; simp at ok
  unfold itemP at h
  split at h
  · split at h
    · split at h
      · exact tail _ _ (by omega) h
      · simp [itFail] at h; subst h; simp at ok
    · simp [itFail] at h; subst h; simp at ok
  · split at h
    · split at h
      · exact tail _ _ (by omega) h
      · simp [itFail] at h; subst h; simp at ok
    · simp [itFail] at h; subst h; simp at ok

theorem item_total {F : Nat} {ts : List Tok} (i : Nat) (L : List Pt) (hF : 16 * ts.length + 8 ≤ F) : ∃ r, itemP F ts i L = some r := by
  have tail : ∀ (j : Nat) (x : Itm), ∃ r, itemTail F ts j L x = some r := by
    intro j x
    obtain ⟨a, ha⟩ := P_total F 6 ts j L 0 (by have : wt 6 = 8 := rfl; omega) (by omega)
    unfold itemTail; rw [ha]; simp only
    repeat' split
    all_goals exact ⟨_, rfl⟩
  unfold itemP
  repeat' split
  all_goals first
    | exact tail _ _
    | exact ⟨_, rfl⟩

theorem parse_total {F : Nat} {ts : List Tok} (hF : 16 * ts.length + 8 ≤ F) (hfin : ∀ i, i + 1 = ts.length → (ts.getD i noTok).k = 101) (g : Nat) : ∀ (i : Nat) (L : List Pt) (xs : List Itm), ts.length - i < g → ∃ R, parseAll F ts g i L xs = some R := by
  induction g with
  | zero => intro i L xs h; omega
  | succ g ih =>
    intro i L xs h
    rw [parseAll]
    by_cases hk : (tokAt ts i).k = 101
    · rw [if_pos hk]; exact ⟨_, rfl⟩
    · rw [if_neg hk]
      obtain ⟨r, hr⟩ := item_total i L hF
      rw [hr]; simp only
      by_cases ok : r.ok = true
      · rw [if_pos ok]
        have := (item_kept hr ok).1
        by_cases hlt : i < ts.length
        · exact ih r.i r.L _ (by omega)
        · exfalso
          have hn : tokAt ts i = noTok := by unfold tokAt; rw [List.getD_eq_getElem?_getD, List.getElem?_eq_none (by omega)]; rfl
          unfold itemP at hr
          rw [hn] at hr
          have e1 : isW noTok wLet = false := by decide
          have e2 : isW noTok wAllow = false := by decide
          have e3 : isW noTok wDeny = false := by decide
          rw [e1, e2, e3] at hr
          simp [itFail] at hr; subst hr; simp at ok
      · rw [if_neg ok]; exact ⟨_, rfl⟩

/-- A run of parts that belongs to one item. -/
def Seg (L : List Pt) (fr to : Nat) : Prop := ∀ k, fr ≤ k → k < to → (L.getD k noPt).subs.length ≤ 3 ∧ (∀ j ∈ (L.getD k noPt).subs, fr ≤ j ∧ j < k) ∧ Arity (L.getD k noPt).tok (L.getD k noPt).subs.length
def Segs (L : List Pt) : List Itm → Nat → Prop
  | [], fr => fr = L.length
  | x :: r, fr => fr ≤ x.top ∧ x.top < x.parts ∧ x.parts ≤ L.length ∧ Seg L fr x.parts ∧ Segs L r x.parts

theorem Segs.snoc {L : List Pt} {xs : List Itm} {fr : Nat} (h : Segs L xs fr) (new : List Pt) (x : Itm) (h1 : L.length ≤ x.top) (h2 : x.top < x.parts) (h3 : x.parts = (L ++ new).length) (h4 : Inv L.length (L ++ new)) : Segs (L ++ new) (xs ++ [x]) fr := by
  induction xs generalizing fr with
  | nil =>
    have : fr = L.length := h
    subst this
    exact ⟨h1, h2, by omega, fun k a b => h4 k a (by omega), h3⟩
  | cons y r ih =>
    obtain ⟨a, b, c, d, e⟩ := h
    refine ⟨a, b, by simp; omega, ?_, ih e⟩
    intro k hk1 hk2
    rw [getD_left (by omega)]
    exact d k hk1 hk2

end Go.Proofs.YtfkdailfcmnjlaaGreatDoor

namespace Go.Proofs.YtfkdailfcmnjlaaGreatDoor
open Go Go.RowKit
set_option maxRecDepth 100000

/-- What all items of words are. -/
def allOf (ts : List Tok) : AllR := (parseAll (16 * ts.length + 8) ts (ts.length + 1) 0 [] []).getD ⟨false, 0, [], []⟩
/-- What reading a text answers: the error and the place; the parts; the items. -/
def readOf (l : List UInt8) : (Nat × Nat) × List Pt × List Itm :=
  if 1000 < l.length then ((1, 0), [], [])
  else match (lex (l.length + 1) l 0).2 with
    | some p => ((2, p), [], [])
    | none => (verdictOf (lex (l.length + 1) l 0).1 (allOf (lex (l.length + 1) l 0).1), (allOf (lex (l.length + 1) l 0).1).L, (allOf (lex (l.length + 1) l 0).1).xs)

end Go.Proofs.YtfkdailfcmnjlaaGreatDoor

namespace Go.Proofs.YtfkdailfcmnjlaaGreatDoor
open Go Go.RowKit
set_option maxRecDepth 100000
attribute [local go_sem ↓] Go.wp_at_zero Go.wp_at_succ

/-- Within 64 bits. -/
def In64 (a : Int) : Prop := -9223372036854775808 ≤ a ∧ a ≤ 9223372036854775807
/-- A number brought within 64 bits. -/
def clampI (a : Int) : Int := if 9223372036854775807 < a then 9223372036854775807 else if a < -9223372036854775808 then -9223372036854775808 else a
theorem clamp_in (a : Int) : In64 (clampI a) := by unfold clampI In64; split; omega; split <;> omega
def truthI (b : Bool) : Int := if b then 1 else 0
def knownI (n : Int) : Int := if n < 0 ∨ 4 < n then 0 else n
/-- What a sign makes of two. -/
def twoI (s : List UInt8) (a b : Int) : Int :=
  if s = [43] then clampI (a + b) else if s = [45] then clampI (a - b) else if s = [61] then truthI (a == b) else if s = [60] then truthI (decide (a < b)) else if s = [60, 61] then truthI (decide (a ≤ b))
  else if s = [111, 114] then truthI (a == 1 || b == 1) else truthI (a == 1 && b == 1)
theorem wrap64 {x : Int} (h : In64 x) : IntKind.i64.wrap x = x := by
  unfold In64 at h
  simp [IntKind.wrap, IntKind.signed, IntKind.bits]
  omega

end Go.Proofs.YtfkdailfcmnjlaaGreatDoor

namespace Go.Proofs.YtfkdailfcmnjlaaGreatDoor
open Go Go.RowKit
set_option maxRecDepth 100000
attribute [local go_sem ↓] Go.wp_at_zero Go.wp_at_succ

set_option maxHeartbeats 1000000 in
theorem ptruth_any (b : Bool) (w : World) : Calls Tryz.prog 82 #[.bool b] w fun e w' => e = .returned (.int .i64 (truthI b)) ∧ w' = w := by
  cases b
  all_goals
    go_enter Tryz.func82, Tryz.ntmps82
    go_wp2_with fail
    go_ret
    exact ⟨rfl, rfl⟩
set_option maxHeartbeats 1000000 in
theorem pmember_any (n : Int) (w : World) : Calls Tryz.prog 81 #[.int .i64 n] w fun e w' => e = .returned (.int .i64 (knownI n)) ∧ w' = w := by
  by_cases h0 : n < 0
  · have HC : Hid (knownI n = 0) := by show _ = _; unfold knownI; rw [if_pos (.inl h0)]
    go_enter Tryz.func81, Tryz.ntmps81
    go_wp2_with fail
    go_ret
    exact ⟨by rw [HC.out]; rfl, rfl⟩
  · by_cases h4 : 4 < n
    · have HC : Hid (knownI n = 0) := by show _ = _; unfold knownI; rw [if_pos (.inr h4)]
      go_enter Tryz.func81, Tryz.ntmps81
      go_wp2_with fail
      go_ret
      exact ⟨by rw [HC.out]; rfl, rfl⟩
    · have HC : Hid (knownI n = n) := by show _ = _; unfold knownI; rw [if_neg (by omega)]
      go_enter Tryz.func81, Tryz.ntmps81
      go_wp2_with fail
      go_ret
      exact ⟨by rw [HC.out]; rfl, rfl⟩

set_option maxHeartbeats 1000000 in
theorem pequal_any (a b : Int) (w : World) : Calls Tryz.prog 166 #[.int .i64 a, .int .i64 b] w fun e w' => e = .returned (.int .i64 (truthI (a == b))) ∧ w' = w := by
  have W1 := fun w => ptruth_any (a == b) w
  generalize hv : truthI (a == b) = r at *
  clear hv
  go_enter Tryz.func166, Tryz.ntmps166
  go_wp2_with fail
  refine (W1 _).mono ?_
  rintro e w1 ⟨rfl, rfl⟩
  clear W1
  go_wp2_with fail
  go_ret
  exact ⟨rfl, rfl⟩

set_option maxHeartbeats 1000000 in
theorem pless_any (a b : Int) (w : World) : Calls Tryz.prog 167 #[.int .i64 a, .int .i64 b] w fun e w' => e = .returned (.int .i64 (truthI (decide (a < b)))) ∧ w' = w := by
  have W1 := fun w => ptruth_any (decide (a < b)) w
  generalize hv : truthI (decide (a < b)) = r at *
  clear hv
  go_enter Tryz.func167, Tryz.ntmps167
  go_wp2_with fail
  refine (W1 _).mono ?_
  rintro e w1 ⟨rfl, rfl⟩
  clear W1
  go_wp2_with fail
  go_ret
  exact ⟨rfl, rfl⟩

set_option maxHeartbeats 1000000 in
theorem patmost_any (a b : Int) (w : World) : Calls Tryz.prog 168 #[.int .i64 a, .int .i64 b] w fun e w' => e = .returned (.int .i64 (truthI (decide (a ≤ b)))) ∧ w' = w := by
  have W1 := fun w => ptruth_any (decide (a ≤ b)) w
  generalize hv : truthI (decide (a ≤ b)) = r at *
  clear hv
  go_enter Tryz.func168, Tryz.ntmps168
  go_wp2_with fail
  refine (W1 _).mono ?_
  rintro e w1 ⟨rfl, rfl⟩
  clear W1
  go_wp2_with fail
  go_ret
  exact ⟨rfl, rfl⟩

set_option maxHeartbeats 1000000 in
theorem pand_any (a b : Int) (w : World) : Calls Tryz.prog 169 #[.int .i64 a, .int .i64 b] w fun e w' => e = .returned (.int .i64 (truthI (a == 1 && b == 1))) ∧ w' = w := by
  have W1 := fun w b => ptruth_any b w
  cases hx : (a == 1)
  all_goals
    cases hy : (b == 1)
  all_goals
    go_enter Tryz.func169, Tryz.ntmps169
    go_wp2_with fail
    refine (W1 _ _).mono ?_
    rintro e w1 ⟨rfl, rfl⟩
    clear W1
    go_wp2_with fail
    go_ret
    exact ⟨rfl, rfl⟩

set_option maxHeartbeats 1000000 in
theorem por_any (a b : Int) (w : World) : Calls Tryz.prog 170 #[.int .i64 a, .int .i64 b] w fun e w' => e = .returned (.int .i64 (truthI (a == 1 || b == 1))) ∧ w' = w := by
  have W1 := fun w b => ptruth_any b w
  cases hx : (a == 1)
  all_goals
    cases hy : (b == 1)
  all_goals
    go_enter Tryz.func170, Tryz.ntmps170
    go_wp2_with fail
    refine (W1 _ _).mono ?_
    rintro e w1 ⟨rfl, rfl⟩
    clear W1
    go_wp2_with fail
    go_ret
    exact ⟨rfl, rfl⟩

set_option maxHeartbeats 1000000 in
theorem pnot_any {a : Int} (ha : a = 0 ∨ a = 1) (w : World) : Calls Tryz.prog 125 #[.int .i64 a] w fun e w' => e = .returned (.int .i64 (1 - a)) ∧ w' = w := by
  have W1 := fun w b => ptruth_any b w
  rcases ha with rfl | rfl
  all_goals
    go_enter Tryz.func125, Tryz.ntmps125
    go_wp2_with fail
    refine (W1 _ _).mono ?_
    rintro e w1 ⟨rfl, rfl⟩
    clear W1
    go_wp2_with fail
    go_ret
    exact ⟨rfl, rfl⟩
end Go.Proofs.YtfkdailfcmnjlaaGreatDoor

namespace Go.Proofs.YtfkdailfcmnjlaaGreatDoor
open Go Go.RowKit
set_option maxRecDepth 100000

/-- The words as they are spelt, by their kinds. -/
def spell : List (List UInt8) := [[], [], [], [40], [41], [59], [43], [45], [61], [60, 61], [60], [108, 101, 116], [97, 108, 108, 111, 119], [100, 101, 110, 121], [105, 102], [116, 104, 101, 110], [101, 108, 115, 101], [111, 114], [97, 110, 100], [110, 111, 116], [116, 114, 117, 101], [102, 97, 108, 115, 101], [110, 111, 110, 101], [105, 110, 118, 105, 116, 101], [106, 111, 105, 110], [108, 101, 97, 118, 101], [98, 97, 110], [108, 101, 118, 101, 108], [114, 97, 110, 107], [110, 101, 101, 100], [119, 104, 101, 110], [115, 101, 110, 100, 101, 114], [116, 97, 114, 103, 101, 116], [119, 97, 110, 116, 115], [115, 101, 108, 102], [111, 112, 101, 110]]

/-- The table of spellings lies in its variable. -/
def Sp (w : World) : Prop := ∀ k, k < 36 → w.cell? ⟨0, k, none⟩ = some (S (spell.getD k []))
theorem Sp.pos {w : World} (h : Sp w) : 0 < w.heap.size := World.block_lt_of_cell? w _ (h 0 (by decide))
theorem Sp.below {w w' : World} (h : Sp w) {B : Nat} (hB : 0 < B) (hb : Below B w w') : Sp w' := fun k hk => by rw [hb.cell (p := ⟨0, k, none⟩) hB]; exact h k hk

set_option maxHeartbeats 400000 in
theorem spelling_any (k : Nat) (w : World) (h : Sp w) (hk : k < 36) : Calls Tryz.prog 119 #[.int .i64 k] w fun e w' => e = .returned (S (spell.getD k [])) ∧ w' = w := by
  have hc := h k hk
  have b1 : (0 : Int) ≤ (k : Int) := by omega
  have b2 : (k : Int) < 36 := by omega
  generalize spell.getD k [] = t at *
  go_enter Tryz.func119, Tryz.ntmps119
  go_wp2
  go_ret
  exact ⟨rfl, rfl⟩

set_option maxHeartbeats 400000 in
theorem isDigit_any (c : UInt8) (w : World) : Calls Tryz.prog 145 #[.int .u8 c.toNat] w fun e w' => e = .returned (.bool (isD c)) ∧ w' = w := by
  have h := c.toNat_lt
  have HE : Hid (isD c = (decide (48 ≤ c.toNat) && decide (c.toNat ≤ 57))) := rfl
  go_enter Tryz.func145, Tryz.ntmps145
  go_wp2
  all_goals go_ret
  all_goals refine ⟨ret_bool ?_, rfl⟩
  all_goals rw [HE.out, Bool.eq_iff_iff]
  all_goals simp
  all_goals omega
set_option maxHeartbeats 400000 in
theorem isLetter_any (c : UInt8) (w : World) : Calls Tryz.prog 148 #[.int .u8 c.toNat] w fun e w' => e = .returned (.bool (isL c)) ∧ w' = w := by
  have h := c.toNat_lt
  have HE : Hid (isL c = (decide (97 ≤ c.toNat) && decide (c.toNat ≤ 122))) := rfl
  go_enter Tryz.func148, Tryz.ntmps148
  go_wp2
  all_goals go_ret
  all_goals refine ⟨ret_bool ?_, rfl⟩
  all_goals rw [HE.out, Bool.eq_iff_iff]
  all_goals simp
  all_goals omega

set_option maxHeartbeats 1000000 in
theorem pastBlanks_any (l : List UInt8) (a : Nat) (w : World) (hl : l.length ≤ 1000) (ha : a ≤ l.length) : Calls Tryz.prog 101 #[S l, .int .i64 a] w fun e w' => e = .returned (.int .i64 (stop isB l a)) ∧ w' = w := by
  go_enter Tryz.func101, Tryz.ntmps101
  go_wp2_with fail
  go_loop [1] (fun i => ∃ j : Nat, a ≤ j ∧ j ≤ l.length ∧ i = .int .i64 j ∧ Hid (stop isB l a = stop isB l j)) (fun i => l.length - (intOf i).toNat)
  case atStart => exact ⟨a, by omega, by omega, rfl, rfl⟩
  case round =>
    obtain ⟨j, hkj, hj, rfl, HB⟩ := hrel
    by_cases hlt : j < l.length
    · go_wp2_with fail
      case roundEnd =>
        refine ⟨⟨j + 1, by omega, by omega, by go_num, ?_⟩, by simp [intOf]; omega⟩
        show _ = _; rw [HB.out]; exact stop_step isB l j hlt (b_yes ‹_›)
      case roundEnd =>
        refine ⟨⟨j + 1, by omega, by omega, by go_num, ?_⟩, by simp [intOf]; omega⟩
        show _ = _; rw [HB.out]; exact stop_step isB l j hlt (b_or ‹_›)
      go_ret
      refine ⟨ret_int ?_, rfl⟩
      rw [HB.out, stop_no isB l j hlt (b_and ‹_›)]
    · go_wp2_with fail
      go_ret
      refine ⟨ret_int ?_, rfl⟩
      rw [HB.out, stop_end isB l j (by omega)]

set_option maxHeartbeats 1000000 in
theorem run_digits (l : List UInt8) (w : World) (hl : l.length ≤ 1000) : Calls Tryz.prog 147 #[S l, .func (.func 145) #[] #[]] w fun e w' => e = .returned (.int .i64 (stop isD l 0)) ∧ w' = w := by
  go_enter Tryz.func147, Tryz.ntmps147
  go_wp2_with fail
  go_loop [5] (fun i => ∃ j : Nat, j ≤ l.length ∧ i = .int .i64 j ∧ Hid (stop isD l 0 = stop isD l j)) (fun i => l.length - (intOf i).toNat)
  case atStart => exact ⟨0, by omega, rfl, rfl⟩
  case round =>
    obtain ⟨j, hj, rfl, HB⟩ := hrel
    by_cases hlt : j < l.length
    · cases hd : isD l[j] with
      | true =>
        have HD : Hid _ := hd
        clear hd
        go_wp2_with fail
        refine (isDigit_any l[j] _).mono ?_
        rintro e w' ⟨rfl, rfl⟩
        rw [HD.out]
        go_wp2_with fail
        refine ⟨⟨j + 1, by omega, by go_num, ?_⟩, by simp [intOf]; omega⟩
        show _ = _; rw [HB.out]; exact stop_step isD l j hlt HD.out
      | false =>
        have HD : Hid _ := hd
        clear hd
        go_wp2_with fail
        refine (isDigit_any l[j] _).mono ?_
        rintro e w' ⟨rfl, rfl⟩
        rw [HD.out]
        go_wp2_with fail
        go_ret
        refine ⟨ret_int ?_, rfl⟩
        rw [HB.out, stop_no isD l j hlt HD.out]
    · go_wp2_with fail
      go_ret
      refine ⟨ret_int ?_, rfl⟩
      rw [HB.out, stop_end isD l j (by omega)]
set_option maxHeartbeats 1000000 in
theorem run_letters (l : List UInt8) (w : World) (hl : l.length ≤ 1000) : Calls Tryz.prog 147 #[S l, .func (.func 148) #[] #[]] w fun e w' => e = .returned (.int .i64 (stop isL l 0)) ∧ w' = w := by
  go_enter Tryz.func147, Tryz.ntmps147
  go_wp2_with fail
  go_loop [5] (fun i => ∃ j : Nat, j ≤ l.length ∧ i = .int .i64 j ∧ Hid (stop isL l 0 = stop isL l j)) (fun i => l.length - (intOf i).toNat)
  case atStart => exact ⟨0, by omega, rfl, rfl⟩
  case round =>
    obtain ⟨j, hj, rfl, HB⟩ := hrel
    by_cases hlt : j < l.length
    · cases hd : isL l[j] with
      | true =>
        have HD : Hid _ := hd
        clear hd
        go_wp2_with fail
        refine (isLetter_any l[j] _).mono ?_
        rintro e w' ⟨rfl, rfl⟩
        rw [HD.out]
        go_wp2_with fail
        refine ⟨⟨j + 1, by omega, by go_num, ?_⟩, by simp [intOf]; omega⟩
        show _ = _; rw [HB.out]; exact stop_step isL l j hlt HD.out
      | false =>
        have HD : Hid _ := hd
        clear hd
        go_wp2_with fail
        refine (isLetter_any l[j] _).mono ?_
        rintro e w' ⟨rfl, rfl⟩
        rw [HD.out]
        go_wp2_with fail
        go_ret
        refine ⟨ret_int ?_, rfl⟩
        rw [HB.out, stop_no isL l j hlt HD.out]
    · go_wp2_with fail
      go_ret
      refine ⟨ret_int ?_, rfl⟩
      rw [HB.out, stop_end isL l j (by omega)]
end Go.Proofs.YtfkdailfcmnjlaaGreatDoor

namespace Go.Proofs.YtfkdailfcmnjlaaGreatDoor
open Go Go.RowKit
set_option maxRecDepth 100000

/-- The kind that the program gives a word. -/
def kindOf (t : Tok) : Nat := if t.k = 110 then 1 else if t.k = 111 then 2 else if t.k = 101 then 0 else (idx spell t.text).toNat

theorem idx_first (l : List (List UInt8)) (s : List UInt8) (k : Nat) (hk : k < l.length) (h1 : ∀ q, q < k → l.getD q [] ≠ s) (h2 : l.getD k [] = s) : idx l s = k := by
  induction l generalizing k with
  | nil => simp at hk
  | cons x r ih =>
    unfold idx
    cases k with
    | zero => simp at h2; rw [h2]; simp
    | succ k =>
      have hx : (x == s) = false := by have := h1 0 (by omega); simpa using this
      have := ih k (by simpa using hk) (fun q hq => by have := h1 (q + 1) (by omega); simpa using this) (by simpa using h2)
      rw [hx, this]; simp; omega
theorem idx_mem {l : List (List UInt8)} {s : List UInt8} (h : 0 ≤ idx l s) : s ∈ l := by
  induction l with
  | nil => simp [idx] at h
  | cons x r ih =>
    unfold idx at h
    by_cases e : (x == s) = true
    · simp at e; simp [e]
    · rw [if_neg e] at h
      by_cases h2 : idx r s < 0
      · rw [if_pos h2] at h; omega
      · exact List.mem_cons_of_mem _ (ih (by omega))
theorem mem_idx {l : List (List UInt8)} {s : List UInt8} (h : s ∈ l) : 0 ≤ idx l s := by
  induction l with
  | nil => simp at h
  | cons x r ih =>
    unfold idx
    by_cases e : (x == s) = true
    · rw [if_pos e]; omega
    · rw [if_neg e]
      have : s ∈ r := by simp at h e; rcases h with h | h; exact absurd h.symm e; exact h
      have := ih this
      rw [if_neg (by omega)]; omega

/-- The keywords stand from the eleventh place on. -/
theorem kw_spell : spell.drop 11 = kOthers ++ kMembers ++ kFields := by decide
theorem isKw_iff (s : List UInt8) : isKw s = true ↔ s ∈ spell.drop 11 := by
  rw [kw_spell]
  unfold isKw
  simp only [Bool.or_eq_true, decide_eq_true_eq, List.mem_append]
  constructor
  · rintro ((h | h) | h)
    · exact .inl (.inr (idx_mem h))
    · exact .inr (idx_mem h)
    · exact .inl (.inl (idx_mem h))
  · rintro ((h | h) | h)
    · exact .inr (mem_idx h)
    · exact .inl (.inl (mem_idx h))
    · exact .inl (.inr (mem_idx h))

theorem letters_ne {s : List UInt8} (h0 : s ≠ []) (hl : ∀ c ∈ s, isL c = true) : ∀ q, q < 11 → spell.getD q [] ≠ s := by
  intro q hq e
  have hall : ∀ q, q < 11 → (spell.getD q []).all isL = true → spell.getD q [] = [] := by decide
  have := hall q hq (by rw [e]; exact List.all_eq_true.2 hl)
  rw [e] at this; exact h0 this

/-- What 'name' answers. -/
def nameV (s : List UInt8) : Value × Nat := if isKw s then (.agg #[.int .i64 (idx spell s), .int .i64 0, .int .i64 0, S []], s.length) else if s.length ≤ 8 then (.agg #[.int .i64 2, .int .i64 0, .int .i64 0, S s], s.length) else (.agg #[.int .i64 0, .int .i64 0, .int .i64 0, S []], 0)

set_option maxHeartbeats 2000000 in
theorem name_any (s : List UInt8) (w : World) (hS : Sp w) (hs : s.length ≤ 1000) (h0 : s ≠ []) (hl : ∀ c ∈ s, isL c = true) :
    Calls Tryz.prog 149 #[S s] w fun e w' => e = .returned (.tuple #[(nameV s).1, .int .i64 (nameV s).2]) ∧ Below w.heap.size w w' := by
  have hB := (Below.refl w.heap.size w).alloc (Nat.le_refl _) (.cells #[.int .i64 0, .int .i64 0, .int .i64 0, S []] 160)
  have hSp := hS.below hS.pos hB
  have HB : Hid _ := hB
  have HL : Hid _ := letters_ne h0 hl
  clear hB h0 hl hS
  go_enter Tryz.func149, Tryz.ntmps149
  go_wp2_with fail
  go_loop [4] (fun i => ∃ k : Nat, 11 ≤ k ∧ k ≤ 36 ∧ i = .int .i64 k ∧ Hid (∀ q, q < k → spell.getD q [] ≠ s)) (fun i => 36 - (intOf i).toNat)
  case atStart => exact ⟨11, by omega, by omega, rfl, HL.out⟩
  case round =>
    obtain ⟨k, hk1, hk2, rfl, HQ⟩ := hrel
    by_cases hlt : k < 36
    · cases he : (s == spell.getD k []) with
      | true =>
        have HE : Hid (spell.getD k [] = s) := by have : s = spell.getD k [] := by simpa using he
                                                  exact this.symm
        have hix : Hid (idx spell s = k) := idx_first spell s k (by exact hlt) HQ.out HE.out
        have hkw : Hid (isKw s = true) := (isKw_iff s).2 (by
          rw [← HE.out, List.getD_eq_getElem?_getD, List.getElem?_eq_getElem (by exact hlt)]
          exact List.mem_drop_iff_getElem.2 ⟨k - 11, by have : spell.length = 36 := rfl; omega, by simp only [Option.getD_some]; congr 1; omega⟩)
        clear he
        go_wp2_with fail
        refine (spelling_any k _ hSp hlt).mono ?_
        rintro e w' ⟨rfl, rfl⟩
        rw [HE.out]
        go_wp2_with fail
        exact bodyPost_ret (v := .tuple #[.agg #[.int .i64 k, .int .i64 0, .int .i64 0, S []], .int .i64 s.length]) (by simp [results, Tryz.results149, go_sem]) rfl ⟨by unfold nameV; rw [if_pos hkw.out, hix.out], (Below.refl _ _).alloc (Nat.le_refl _) _⟩
      | false =>
        have HE : Hid (spell.getD k [] ≠ s) := fun e => by rw [e] at he; simp at he
        have he' := he
        generalize hg : spell.getD k [] = sp at *
        have HG : Hid _ := hg
        clear he hg
        go_wp2_with fail
        refine (spelling_any k _ hSp hlt).mono ?_
        rintro e w' ⟨rfl, rfl⟩
        rw [HG.out]
        go_wp2_with fail
        refine ⟨⟨k + 1, by omega, by omega, by go_num, fun q hq => ?_⟩, by simp [intOf]; omega⟩
        by_cases e : q = k
        · subst e; rw [HG.out]; exact HE.out
        · exact HQ.out q (by omega)
    · have hkw : Hid (isKw s = false) := by
        show _ = _
        cases e : isKw s with
        | false => rfl
        | true =>
          obtain ⟨i, hi, hi2⟩ := List.mem_iff_getElem.1 ((isKw_iff s).1 e)
          have hsl : spell.length = 36 := rfl
          have hi' : i < 25 := by simp at hi; omega
          exact absurd (by rw [List.getElem_drop] at hi2; rw [List.getD_eq_getElem?_getD, List.getElem?_eq_getElem (by omega)]; exact hi2) (HQ.out (11 + i) (by omega))
      by_cases h8 : s.length ≤ 8
      · go_wp2_with fail
        exact bodyPost_ret (v := .tuple #[.agg #[.int .i64 2, .int .i64 0, .int .i64 0, S s], .int .i64 s.length]) (by simp [results, Tryz.results149, go_sem]) rfl ⟨by unfold nameV; rw [if_neg (by simp [hkw.out]), if_pos h8], (Below.refl _ _).alloc (Nat.le_refl _) _⟩
      · go_wp2_with fail
        exact bodyPost_ret (v := .tuple #[.agg #[.int .i64 0, .int .i64 0, .int .i64 0, S []], .int .i64 0]) (by simp [results, Tryz.results149, go_sem]) rfl ⟨by unfold nameV; rw [if_neg (by simp [hkw.out]), if_neg h8]; rfl, (Below.refl _ _).alloc (Nat.le_refl _) _⟩
end Go.Proofs.YtfkdailfcmnjlaaGreatDoor

namespace Go.Proofs.YtfkdailfcmnjlaaGreatDoor
open Go Go.RowKit
set_option maxRecDepth 100000

theorem take_prefix (s p : List UInt8) : (((ByteArray.mk s.toArray).extract 0 p.length).toList == p) = p.isPrefixOf s := by
  rw [cut_ex, ByteArray.toList_mk, Bool.eq_iff_iff, List.isPrefixOf_iff_prefix, List.prefix_iff_eq_take]
  simp only [cut, List.drop_zero, Nat.sub_zero, beq_iff_eq]
  exact eq_comm

set_option maxHeartbeats 1000000 in
theorem hasPrefix_any (s p : List UInt8) (w : World) (hs : s.length ≤ 1000) (hp : p.length ≤ 1000) : Calls Tryz.prog 209 #[S s, S p] w fun e w' => e = .returned (.bool (p.isPrefixOf s)) ∧ w' = w := by
  by_cases h : p.length ≤ s.length
  · go_enter Tryz.func209, Tryz.ntmps209
    go_wp2
    all_goals go_ret
    all_goals refine ⟨ret_bool ?_, rfl⟩
    all_goals exact take_prefix s p
  · have HE : Hid (p.isPrefixOf s = false) := by
      show _ = _
      rw [Bool.eq_false_iff]; intro e
      rw [List.isPrefixOf_iff_prefix] at e
      exact h e.length_le
    rw [HE.out]
    go_enter Tryz.func209, Tryz.ntmps209
    go_wp2
    all_goals go_ret
    all_goals refine ⟨ret_bool ?_, rfl⟩
    all_goals rfl

/-- The first kind of a sign, from one on, that a text begins with. -/
def signK (s : List UInt8) : Option Nat := (List.range' 3 8).find? (fun k => (spell.getD k []).isPrefixOf s)
theorem signK_yes {s : List UInt8} {k : Nat} (h3 : 3 ≤ k) (h11 : k < 11) (h1 : ∀ q, 3 ≤ q → q < k → (spell.getD q []).isPrefixOf s = false) (h2 : (spell.getD k []).isPrefixOf s = true) : signK s = some k := by
  unfold signK
  rw [List.find?_range'_eq_some]
  refine ⟨h2, by simp; omega, fun j hj hk => ?_⟩
  rw [h1 j hj hk]; rfl
theorem signK_no {s : List UInt8} (h1 : ∀ q, 3 ≤ q → q < 11 → (spell.getD q []).isPrefixOf s = false) : signK s = none := by
  unfold signK
  rw [List.find?_eq_none]
  intro x hx
  rw [List.mem_range'_1] at hx
  rw [h1 x (by omega) (by omega)]; simp
/-- What 'sign' answers. -/
def signV (s : List UInt8) : Value × Nat := match signK s with
  | some k => (.agg #[.int .i64 k, .int .i64 0, .int .i64 0, S []], (spell.getD k []).length)
  | none => (.agg #[.int .i64 0, .int .i64 0, .int .i64 0, S []], 0)
theorem spell_short : ∀ k, k < 36 → (spell.getD k []).length ≤ 1000 := by decide

set_option maxHeartbeats 2000000 in
theorem sign_any (s : List UInt8) (w : World) (hS : Sp w) (hs : s.length ≤ 1000) :
    Calls Tryz.prog 150 #[S s] w fun e w' => e = .returned (.tuple #[(signV s).1, .int .i64 (signV s).2]) ∧ Below w.heap.size w w' := by
  have hB := (Below.refl w.heap.size w).alloc (Nat.le_refl _) (.cells #[.int .i64 0, .int .i64 0, .int .i64 0, S []] 160)
  have hSp := hS.below hS.pos hB
  have HB : Hid _ := hB
  clear hB hS
  go_enter Tryz.func150, Tryz.ntmps150
  go_wp2_with fail
  go_loop [4] (fun i => ∃ k : Nat, 3 ≤ k ∧ k ≤ 11 ∧ i = .int .i64 k ∧ Hid (∀ q, 3 ≤ q → q < k → (spell.getD q []).isPrefixOf s = false)) (fun i => 11 - (intOf i).toNat)
  case atStart => exact ⟨3, by omega, by omega, rfl, fun q h1 h2 => by omega⟩
  case round =>
    obtain ⟨k, hk1, hk2, rfl, HQ⟩ := hrel
    by_cases hlt : k < 11
    · have hlen := spell_short k (by omega)
      cases he : (spell.getD k []).isPrefixOf s with
      | true =>
        have HV : Hid (signV s = (.agg #[.int .i64 k, .int .i64 0, .int .i64 0, S []], (spell.getD k []).length)) := by
          show _ = _; unfold signV; rw [signK_yes hk1 hlt HQ.out he]
        have HE : Hid _ := he
        clear he
        generalize hg : spell.getD k [] = sp at *
        have HG : Hid _ := hg
        clear hg
        go_wp2_with fail
        refine (spelling_any k _ hSp (by omega)).mono ?_
        rintro e w' ⟨rfl, rfl⟩
        rw [HG.out]
        go_wp2_with fail
        refine (hasPrefix_any s sp _ hs hlen).mono ?_
        rintro e w' ⟨rfl, rfl⟩
        rw [HE.out]
        go_wp2_with fail
        refine (spelling_any k _ hSp (by omega)).mono ?_
        rintro e w' ⟨rfl, rfl⟩
        rw [HG.out]
        go_wp2_with fail
        exact bodyPost_ret (v := .tuple #[.agg #[.int .i64 k, .int .i64 0, .int .i64 0, S []], .int .i64 sp.length]) (by simp [results, Tryz.results150, go_sem]) rfl ⟨by rw [HV.out], (Below.refl _ _).alloc (Nat.le_refl _) _⟩
      | false =>
        have HE : Hid _ := he
        have HE2 : Hid _ := he
        clear he
        generalize hg : spell.getD k [] = sp at hlen HE
        have HG : Hid _ := hg
        clear hg
        go_wp2_with fail
        refine (spelling_any k _ hSp (by omega)).mono ?_
        rintro e w' ⟨rfl, rfl⟩
        rw [HG.out]
        go_wp2_with fail
        refine (hasPrefix_any s sp _ hs hlen).mono ?_
        rintro e w' ⟨rfl, rfl⟩
        rw [HE.out]
        go_wp2_with fail
        refine ⟨⟨k + 1, by omega, by omega, by go_num, fun q h3 hq => ?_⟩, by simp [intOf]; omega⟩
        by_cases e : q = k
        · rw [e]; exact HE2.out
        · exact HQ.out q h3 (by omega)
    · have HV : Hid (signV s = (.agg #[.int .i64 0, .int .i64 0, .int .i64 0, S []], 0)) := by
        show _ = _; unfold signV; rw [signK_no (fun q h1 h2 => HQ.out q h1 (by omega))]
      go_wp2_with fail
      exact bodyPost_ret (v := .tuple #[.agg #[.int .i64 0, .int .i64 0, .int .i64 0, S []], .int .i64 0]) (by simp [results, Tryz.results150, go_sem]) rfl ⟨by rw [HV.out]; rfl, (Below.refl _ _).alloc (Nat.le_refl _) _⟩
end Go.Proofs.YtfkdailfcmnjlaaGreatDoor

namespace Go.Proofs.YtfkdailfcmnjlaaGreatDoor
open Go Go.RowKit
set_option maxRecDepth 100000
attribute [local go_sem ↓] Go.wp_at_zero Go.wp_at_succ

theorem wrap_over {x : Int} (h : 9223372036854775807 < x) (h2 : x ≤ 18446744073709551615) : IntKind.i64.wrap x = x - 18446744073709551616 := by
  simp [IntKind.wrap, IntKind.signed, IntKind.bits]
  omega
theorem wrap_under {x : Int} (h : x < -9223372036854775808) (h2 : -18446744073709551616 ≤ x) : IntKind.i64.wrap x = x + 18446744073709551616 := by
  simp [IntKind.wrap, IntKind.signed, IntKind.bits]
  omega

set_option maxHeartbeats 2000000 in
theorem padd_any {a b : Int} (ha : In64 a) (hb : In64 b) (w : World) : Calls Tryz.prog 164 #[.int .i64 a, .int .i64 b] w fun e w' => e = .returned (.int .i64 (clampI (a + b))) ∧ w' = w := by
  unfold In64 at ha hb
  by_cases h1 : 9223372036854775807 < a + b
  · have HC : Hid (clampI (a + b) = 9223372036854775807) := by show _ = _; unfold clampI; rw [if_pos h1]
    have w3 := wrap_over h1 (by omega)
    have a1 : 0 ≤ a := by omega
    have a2 : 0 ≤ b := by omega
    have a3 : a + b - 18446744073709551616 < 0 := by omega
    go_enter Tryz.func164, Tryz.ntmps164
    go_wp2_with fail
    go_ret
    exact ⟨by rw [HC.out]; rfl, rfl⟩
  · by_cases h2 : a + b < -9223372036854775808
    · have HC : Hid (clampI (a + b) = -9223372036854775808) := by show _ = _; unfold clampI; rw [if_neg h1, if_pos h2]
      have w3 := wrap_under h2 (by omega)
      have a1 : a < 0 := by omega
      have a2 : b < 0 := by omega
      have a3 : 0 ≤ a + b + 18446744073709551616 := by omega
      go_enter Tryz.func164, Tryz.ntmps164
      go_wp2_with fail
      go_ret
      exact ⟨by rw [HC.out]; rfl, rfl⟩
    · have HC : Hid (clampI (a + b) = a + b) := by show _ = _; unfold clampI; rw [if_neg h1, if_neg h2]
      have w3 : IntKind.i64.wrap (a + b) = a + b := wrap64 (by unfold In64; omega)
      by_cases a1 : 0 ≤ a
      · by_cases a2 : 0 ≤ b
        · have _h := 0
          go_enter Tryz.func164, Tryz.ntmps164
          go_wp2_with fail
          go_ret
          exact ⟨by rw [HC.out]; rfl, rfl⟩
        · have _h := 0
          go_enter Tryz.func164, Tryz.ntmps164
          go_wp2_with fail
          go_ret
          exact ⟨by rw [HC.out]; rfl, rfl⟩
      · by_cases a2 : 0 ≤ b
        · have _h := 0
          go_enter Tryz.func164, Tryz.ntmps164
          go_wp2_with fail
          go_ret
          exact ⟨by rw [HC.out]; rfl, rfl⟩
        · have _h := 0
          go_enter Tryz.func164, Tryz.ntmps164
          go_wp2_with fail
          go_ret
          exact ⟨by rw [HC.out]; rfl, rfl⟩

set_option maxHeartbeats 2000000 in
theorem psub_any {a b : Int} (ha : In64 a) (hb : In64 b) (w : World) : Calls Tryz.prog 165 #[.int .i64 a, .int .i64 b] w fun e w' => e = .returned (.int .i64 (clampI (a - b))) ∧ w' = w := by
  unfold In64 at ha hb
  by_cases h1 : 9223372036854775807 < a - b
  · have HC : Hid (clampI (a - b) = 9223372036854775807) := by show _ = _; unfold clampI; rw [if_pos h1]
    have w3 := wrap_over h1 (by omega)
    have a1 : 0 ≤ a := by omega
    have a2 : b < 0 := by omega
    have a3 : a - b - 18446744073709551616 < 0 := by omega
    go_enter Tryz.func165, Tryz.ntmps165
    go_wp2_with fail
    go_ret
    exact ⟨by rw [HC.out]; rfl, rfl⟩
  · by_cases h2 : a - b < -9223372036854775808
    · have HC : Hid (clampI (a - b) = -9223372036854775808) := by show _ = _; unfold clampI; rw [if_neg h1, if_pos h2]
      have w3 := wrap_under h2 (by omega)
      have a1 : a < 0 := by omega
      have a2 : 0 ≤ b := by omega
      have a3 : 0 ≤ a - b + 18446744073709551616 := by omega
      go_enter Tryz.func165, Tryz.ntmps165
      go_wp2_with fail
      go_ret
      exact ⟨by rw [HC.out]; rfl, rfl⟩
    · have HC : Hid (clampI (a - b) = a - b) := by show _ = _; unfold clampI; rw [if_neg h1, if_neg h2]
      have w3 : IntKind.i64.wrap (a - b) = a - b := wrap64 (by unfold In64; omega)
      by_cases a1 : 0 ≤ a
      · by_cases a2 : 0 ≤ b
        · have _h := 0
          go_enter Tryz.func165, Tryz.ntmps165
          go_wp2_with fail
          go_ret
          exact ⟨by rw [HC.out]; rfl, rfl⟩
        · have _h := 0
          go_enter Tryz.func165, Tryz.ntmps165
          go_wp2_with fail
          go_ret
          exact ⟨by rw [HC.out]; rfl, rfl⟩
      · by_cases a2 : 0 ≤ b
        · have _h := 0
          go_enter Tryz.func165, Tryz.ntmps165
          go_wp2_with fail
          go_ret
          exact ⟨by rw [HC.out]; rfl, rfl⟩
        · have _h := 0
          go_enter Tryz.func165, Tryz.ntmps165
          go_wp2_with fail
          go_ret
          exact ⟨by rw [HC.out]; rfl, rfl⟩
end Go.Proofs.YtfkdailfcmnjlaaGreatDoor

namespace Go.Proofs.YtfkdailfcmnjlaaGreatDoor
open Go Go.RowKit
set_option maxRecDepth 100000
attribute [local go_sem ↓] Go.wp_at_zero Go.wp_at_succ

theorem rba_cat (a b : List UInt8) : (ByteArray.mk a.toArray ++ ByteArray.mk b.toArray) = ByteArray.mk (a ++ b).toArray := by
  apply ByteArray.ext
  simp
theorem wrap_small {x : Int} (h0 : 0 ≤ x) (h1 : x ≤ 9223372036854775807) : IntKind.i64.wrap x = x := by
  simp [IntKind.wrap, IntKind.signed, IntKind.bits]
  omega
end Go.Proofs.YtfkdailfcmnjlaaGreatDoor
