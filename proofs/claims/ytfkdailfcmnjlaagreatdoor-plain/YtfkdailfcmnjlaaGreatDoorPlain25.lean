/-
  What an effect does tw a set. What an instruction does tw what is known: fields, cells, the sign '='. What the other instructions do tw what is known: by the table of effects. What an instruction does in memory is what the plain function says. Where an instruction goes on. What is known is brought tw the next places. Looking a code through: what stands between the rounds. The program finds the instruction that begins at a byte. The program finds where jumps come tw. The program reads a code's instructions. The machine in memory.
-/
import Derived.Test.YtfkdailfcmnjlaaGreatDoorPlain01
import Derived.Test.YtfkdailfcmnjlaaGreatDoorPlain02
import Derived.Test.YtfkdailfcmnjlaaGreatDoorPlain04
import Derived.Test.YtfkdailfcmnjlaaGreatDoorPlain05
import Derived.Test.YtfkdailfcmnjlaaGreatDoorPlain06
import Derived.Test.YtfkdailfcmnjlaaGreatDoorPlain07
import Derived.Test.YtfkdailfcmnjlaaGreatDoorPlain08
import Derived.Test.YtfkdailfcmnjlaaGreatDoorPlain09
import Derived.Test.YtfkdailfcmnjlaaGreatDoorPlain10
import Derived.Test.YtfkdailfcmnjlaaGreatDoorPlain11
import Derived.Test.YtfkdailfcmnjlaaGreatDoorPlain12
import Derived.Test.YtfkdailfcmnjlaaGreatDoorPlain13
import Derived.Test.YtfkdailfcmnjlaaGreatDoorPlain14
import Derived.Test.YtfkdailfcmnjlaaGreatDoorPlain15
import Derived.Test.YtfkdailfcmnjlaaGreatDoorPlain16
import Derived.Test.YtfkdailfcmnjlaaGreatDoorPlain17
import Derived.Test.YtfkdailfcmnjlaaGreatDoorPlain18
import Derived.Test.YtfkdailfcmnjlaaGreatDoorPlain19
import Derived.Test.YtfkdailfcmnjlaaGreatDoorPlain20
import Derived.Test.YtfkdailfcmnjlaaGreatDoorPlain21
import Derived.Test.YtfkdailfcmnjlaaGreatDoorPlain22
import Derived.Test.YtfkdailfcmnjlaaGreatDoorPlain23
import Derived.Test.YtfkdailfcmnjlaaGreatDoorPlain24
import Derived.Test.YtfkdailfcmnjlaaGreatDoorLays
import Derived.Test.YtfkdailfcmnjlaaGreatDoorLays2
import Derived.WalkKit
import Derived.Deep.QuietTactic
import Derived.BigQuiet
import Derived.WalkSpells
import GoSem.Op.String
import Derived.Deep.AppendLies
import Derived.Deep.RegionHeld3
import Derived.Deep.DrawnRows
import Derived.Deep.RegionHeldLaw
import Derived.Deep.RegionLaw
import Derived.Lib.ParseIntBCases
import Derived.Deep.OwnRows
import Derived.Lib.LaidTab
import Derived.Lib.AppendIntMem
import Derived.Shelf.Strings.Builder1
import Derived.Laws.CopyOwn
import Derived.Deep.DeepCutAuto
import Derived.WalkSmall
import Derived.Lib.AppendZerosOnto
set_option linter.unusedVariables false
set_option linter.unusedSimpArgs false
namespace Go.Proofs.YtfkdailfcmnjlaaGreatDoor
open Go Go.RowKit
set_option maxRecDepth 100000
attribute [local go_sem ↓] Go.wp_at_zero Go.wp_at_succ

theorem SetOut.only {w w' : World} {p : Nat} {vs vc : Value} {st c : List Int} (h : SetOut w w' p vs vc st c) : Only (Foot p vs vc) w w' := by
  obtain ⟨_, _, _, h, _⟩ := h; exact h
theorem SetOut.alloc {w w' : World} {p : Nat} {vs vc : Value} {st c : List Int} {o : Obj} (h : SetOut (w.alloc o) w' p vs vc st c) : SetOut w w' p vs vc st c :=
  SetOut.then ((Only.refl _ w).alloc o) (fun _ hb => .inl hb) h
end Go.Proofs.YtfkdailfcmnjlaaGreatDoor

namespace Go.Proofs.YtfkdailfcmnjlaaGreatDoor
open Go Go.RowKit
set_option maxRecDepth 100000
attribute [local go_sem ↓] Go.wp_at_zero Go.wp_at_succ

def insO (op : Nat) (n tw pl : Int) : Obj := .cells #[.int .i64 op, .int .i64 n, .int .i64 tw, .int .i64 pl] 247 (0, 0)
/-- What stands at the beginning of a change: the instruction's block is laid. -/
structure ChStart (w w1 : World) (p : Nat) (vs vc : Value) (st c : List Int) (op : Nat) (n tw pl : Int) : Prop where
  set : SetAt w1 p vs vc st c
  far : ∀ b, Foot p vs vc b → b < w.heap.size
  blk : w1.heap[w.heap.size]? = some (insO op n tw pl)
  siz : w.heap.size < w1.heap.size
  out : ∀ w' st c, SetOut w1 w' p vs vc st c → SetOut w w' p vs vc st c
  only : ∀ w', Only (Foot p vs vc) w1 w' → Only (Foot p vs vc) w w'
theorem ChStart.cells {w w1 : World} {p : Nat} {vs vc : Value} {st c : List Int} {op : Nat} {n tw pl : Int} (h : ChStart w w1 p vs vc st c op n tw pl) : w1.cell? ⟨w.heap.size, 0, none⟩ = some (.int .i64 op) ∧ w1.cell? ⟨w.heap.size, 1, none⟩ = some (.int .i64 n) ∧ w1.cell? ⟨w.heap.size, 2, none⟩ = some (.int .i64 tw) := by
  have hc := fun j => cell_of_row w1 _ j _ _ _ h.blk
  exact ⟨hc 0, hc 1, hc 2⟩
theorem SetOut.drew {w w' : World} {p : Nat} {vs vc : Value} {st c : List Int} (h : SetOut w w' p vs vc st c) : SetOut w w'.drew p vs vc st c := by
  obtain ⟨vs', vc', h1, h2, h3⟩ := h
  exact ⟨vs', vc', h1.drew, h2.drew, h3⟩
end Go.Proofs.YtfkdailfcmnjlaaGreatDoor

namespace Go.Proofs.YtfkdailfcmnjlaaGreatDoor
open Go Go.RowKit
set_option maxRecDepth 100000
attribute [local go_sem ↓] Go.wp_at_zero Go.wp_at_succ

/-- The table of effects. -/
def effL : List Int := [0, 0, 0, 0, 0, 1, 0, 0, 2, 0, 0, 3, 0, 0, 0, 0, 0, 0, 0, 0, 0, 2, 1, 1, 2, 1, 1, 0, 0, 0, 2, 1, 2, 2, 1, 2, 1, 2, 2, 2, 2, 2, 2, 2, 2, 1, 2, 0, 0, 0, 0, 0, 0, 0, 0, 0, 0]
def Ef (w : World) : Prop := ∀ j, j < 57 → w.cell? ⟨1, j, none⟩ = some (.int .i64 (effL.getD j 0))
theorem Ef.below {w w' : World} (h : Ef w) {B : Nat} (hB : 1 < B) (hb : Below B w w') : Ef w' := fun k hk => by rw [hb.cell (p := ⟨1, k, none⟩) hB]; exact h k hk
end Go.Proofs.YtfkdailfcmnjlaaGreatDoor

namespace Go.Proofs.YtfkdailfcmnjlaaGreatDoor
open Go Go.RowKit
set_option maxRecDepth 100000

/-- A stack's types as they lie in memory, the lowest first. -/
def stI (l : List Nat) : List Int := l.reverse.map fun (t : Nat) => (t : Int)
/-- What is known, as it lies in memory. -/
structure KnIs (k : Kn) (st c : List Int) : Prop where
  st : st = stI k.st
  len : c.length ≤ k.cl.length
  cl : ∀ i, c.getD i 0 = (k.cl.getD i 0 : Nat)
end Go.Proofs.YtfkdailfcmnjlaaGreatDoor

namespace Go.Proofs.YtfkdailfcmnjlaaGreatDoor
open Go Go.RowKit
set_option maxRecDepth 100000
attribute [local go_sem ↓] Go.wp_at_zero Go.wp_at_succ

/-- What is known at the places that may still be come tj, in memory; whose each block is. -/
structure ComeAt (w : World) (B g lo : Nat) (O : Nat → Nat) (come : List (Option Kn)) : Prop where
  blk : ∃ cs, w.heap[g]? = some (.cells cs 285 (0, 0)) ∧ cs.size = come.length
  non : ∀ j, lo ≤ j → j < come.length → come.getD j none = none → w.cell? ⟨g, j, none⟩ = some (.pointer none)
  som : ∀ j, lo ≤ j → j < come.length → ∀ k, come.getD j none = some k → ∃ p vs vc st c, w.cell? ⟨g, j, none⟩ = some (.pointer (some ⟨p, 0, none⟩)) ∧ SetAt w p vs vc st c ∧ KnIs k st c ∧ ∀ b, Foot p vs vc b → O b = j + 1
  own : O g = 0
  low : ∀ b, O b ≠ 0 → B ≤ b
  lowg : B ≤ g
  siz : B ≤ w.heap.size
end Go.Proofs.YtfkdailfcmnjlaaGreatDoor

namespace Go.Proofs.YtfkdailfcmnjlaaGreatDoor
open Go Go.RowKit
set_option maxRecDepth 100000
attribute [local go_sem ↓] Go.wp_at_zero Go.wp_at_succ

theorem ComeAt.lt {w : World} {B g lo : Nat} {O : Nat → Nat} {come : List (Option Kn)} (h : ComeAt w B g lo O come) : g < w.heap.size := by
  obtain ⟨cs, hc, _⟩ := h.blk; exact lt_of_get hc
/-- What bringing leaves. -/
def ComeOut (O : Nat → Nat) (w w' : World) (B g lo : Nat) (come : List (Option Kn)) (i p : Nat) (vs vc : Value) (st c : List Int) : Prop :=
  ∃ O', ComeAt w' B g lo O' come ∧ SetAt w' p vs vc st c ∧ (∀ b, Foot p vs vc b → O' b = i + 1) ∧ Below B w w' ∧ ∀ b, b < w.heap.size → b ≠ g → O b = 0 → O' b = 0 ∧ w'.heap[b]? = w.heap[b]?
theorem ComeAt.below {w w' : World} {B g lo j : Nat} {O : Nat → Nat} {come : List (Option Kn)} (h : ComeAt w B g lo O come) (ho : Only (fun b => b = g ∨ O b = j + 1) w w') : Below B w w' :=
  ho.below h.siz (fun b _ hb => by
    rcases hb with rfl | hb
    · exact h.lowg
    · exact h.low b (by omega))
end Go.Proofs.YtfkdailfcmnjlaaGreatDoor

namespace Go.Proofs.YtfkdailfcmnjlaaGreatDoor
open Go Go.RowKit
set_option maxRecDepth 100000

/-- Where a jump comes tw, as the program keeps it. -/
def toOf (ins : List Ins) (x : Ins) : Int := if x.op = 15 ∨ x.op = 16 then (((jumpTo ins x).getD 0 : Nat) : Int) else 0
/-- A code in memory. -/
structure CodeAt (w : World) (cp gi cap cells depth : Nat) (ins : List Ins) : Prop where
  blk : w.heap[cp]? = some (.cells #[.int .i64 cells, .slice (some ⟨gi, 0, none⟩) ins.length cap, .int .i64 depth] 253 (0, 0))
  op : ∀ i, i < ins.length → w.cell? ⟨gi, i * 4, none⟩ = some (.int .i64 ((ins.getD i noIns).op : Nat))
  num : ∀ i, i < ins.length → w.cell? ⟨gi, i * 4 + 1, none⟩ = some (.int .i64 (ins.getD i noIns).n)
  tos : ∀ i, i < ins.length → w.cell? ⟨gi, i * 4 + 2, none⟩ = some (.int .i64 (toOf ins (ins.getD i noIns)))
  pls : ∀ i, i < ins.length → w.cell? ⟨gi, i * 4 + 3, none⟩ = some (.int .i64 ((ins.getD i noIns).pl : Nat))
theorem CodeAt.below {w w' : World} {cp gi cap cells depth : Nat} {ins : List Ins} (h : CodeAt w cp gi cap cells depth ins) (hb : Below w.heap.size w w') : CodeAt w' cp gi cap cells depth ins := by
  have hc : ∀ {o : Nat} {v : Value}, w.cell? ⟨gi, o, none⟩ = some v → w'.cell? ⟨gi, o, none⟩ = some v := fun {o v} e => by
    rw [hb.cell (World.block_lt_of_cell? w _ e)]; exact e
  exact ⟨(hb.block cp (lt_of_get h.blk)).trans h.blk, fun i hi => hc (h.op i hi), fun i hi => hc (h.num i hi), fun i hi => hc (h.tos i hi), fun i hi => hc (h.pls i hi)⟩
/-- What is known is of types. -/
def ComeTy (cells : Nat) (come : List (Option Kn)) : Prop := ∀ j k, come.getD j none = some k → Tys1 k.st ∧ Tys k.cl ∧ k.cl.length = cells ∧ k.st.length ≤ 24
theorem ComeTy.set {cells : Nat} {come : List (Option Kn)} (h : ComeTy cells come) {j : Nat} {k : Kn} (hk : Tys1 k.st ∧ Tys k.cl ∧ k.cl.length = cells ∧ k.st.length ≤ 24) : ComeTy cells (come.set j (some k)) := fun i k' e => by
  by_cases hij : j = i
  · subst hij
    by_cases hl : j < come.length
    · rw [getD_set_eq hl] at e; obtain rfl := Option.some.inj e; exact hk
    · rw [List.set_eq_of_length_le (by omega)] at e; exact h j k' e
  · rw [getD_set_ne hij] at e; exact h i k' e
/-- Between the ways of an instruction. -/
structure InI (w wi : World) (cells : Nat) (ins : List Ins) (i p : Nat) (vs vc : Value) (st c : List Int) (v : Value) (L : List Int) (k : Kn) (come : List (Option Kn)) (leads : List (Option Nat)) (m : Nat) (O : Nat → Nat) (come' : List (Option Kn)) : Prop where
  at_ : ComeAt wi w.heap.size w.heap.size (i + 1) O come'
  len : come'.length = ins.length
  set : SetAt wi p vs vc st c
  own : ∀ b, Foot p vs vc b → O b = i + 1
  row : IR wi 3 v L
  rowO : ∀ b, v.ownBlock = some b → O b = 0
  bel : Below w.heap.size w wi
  bri : bringK come k leads = bringK come' k (leads.drop m)
  typ : ComeTy cells come'
theorem InI.next {w wi w' : World} {cells : Nat} {ins : List Ins} {i p : Nat} {vs vc : Value} {st c : List Int} {v : Value} {L : List Int} {k : Kn} {come : List (Option Kn)} {leads : List (Option Nat)} {m : Nat} {O : Nat → Nat} {come' : List (Option Kn)} (h : InI w wi cells ins i p vs vc st c v L k come leads m O come') {j : Nat} {kk : Kn}
    (hout : ComeOut O wi w' w.heap.size w.heap.size (i + 1) (come'.set j (some kk)) i p vs vc st c) (hb : bringK come' k (leads.drop m) = bringK (come'.set j (some kk)) k (leads.drop (m + 1))) (hk : Tys1 kk.st ∧ Tys kk.cl ∧ kk.cl.length = cells ∧ kk.st.length ≤ 24) : ∃ O', InI w w' cells ins i p vs vc st c v L k come leads (m + 1) O' (come'.set j (some kk)) := by
  obtain ⟨O', h1, h2, h3, h4, h5⟩ := hout
  obtain ⟨cs, hc, _⟩ := h.at_.blk
  have hg : v.ownBlock ≠ some w.heap.size := h.row.ne hc (by decide)
  have hr : ∀ b, v.ownBlock = some b → O' b = 0 ∧ w'.heap[b]? = wi.heap[b]? := fun b hb => h5 b (h.row.lt b hb).2 (fun e => hg (by rw [← e]; exact hb)) (h.rowO b hb)
  exact ⟨O', h1, by simpa using h.len, h2, h3, ownsRow_of_block h.row (fun b hb => (hr b hb).2), fun b hb => (hr b hb).1, h.bel.trans h4, h.bri.trans hb, h.typ.set hk⟩
end Go.Proofs.YtfkdailfcmnjlaaGreatDoor

namespace Go.Proofs.YtfkdailfcmnjlaaGreatDoor
open Go Go.RowKit
set_option maxRecDepth 100000
attribute [local go_sem ↓] Go.wp_at_zero Go.wp_at_succ

/-- A row of instructions in memory, whatever their jumps come tw. -/
structure RowQ (w : World) (gi n : Nat) (fo fn ft fp : Nat → Int) : Prop where
  op : ∀ i, i < n → w.cell? ⟨gi, i * 4, none⟩ = some (.int .i64 (fo i))
  num : ∀ i, i < n → w.cell? ⟨gi, i * 4 + 1, none⟩ = some (.int .i64 (fn i))
  tos : ∀ i, i < n → w.cell? ⟨gi, i * 4 + 2, none⟩ = some (.int .i64 (ft i))
  pls : ∀ i, i < n → w.cell? ⟨gi, i * 4 + 3, none⟩ = some (.int .i64 (fp i))
theorem RowQ.below {w w' : World} {gi n : Nat} {fo fn ft fp : Nat → Int} (h : RowQ w gi n fo fn ft fp) (hb : Below w.heap.size w w') : RowQ w' gi n fo fn ft fp := by
  have hc : ∀ {o : Nat} {v : Value}, w.cell? ⟨gi, o, none⟩ = some v → w'.cell? ⟨gi, o, none⟩ = some v := fun {o v} e => by
    rw [hb.cell (World.block_lt_of_cell? w _ e)]; exact e
  exact ⟨fun i hi => hc (h.op i hi), fun i hi => hc (h.num i hi), fun i hi => hc (h.tos i hi), fun i hi => hc (h.pls i hi)⟩
end Go.Proofs.YtfkdailfcmnjlaaGreatDoor

namespace Go.Proofs.YtfkdailfcmnjlaaGreatDoor
open Go Go.RowKit
set_option maxRecDepth 100000
attribute [local go_sem ↓] Go.wp_at_zero Go.wp_at_succ

theorem RowQ.put {w : World} {gi n : Nat} {fo fn ft ft' fp : Nat → Int} (h : RowQ w gi n fo fn ft fp) {k : Nat} {x : Int} (hk : k < n) (hx : ft' k = x) (ho : ∀ i, i < n → i ≠ k → ft' i = ft i) : RowQ (w.setCell ⟨gi, k * 4 + 2, none⟩ (.int .i64 x)) gi n fo fn ft' fp := by
  refine ⟨fun i hi => ?_, fun i hi => ?_, fun i hi => ?_, fun i hi => ?_⟩
  · rw [cell_set_off _ _ _ _ _ (by omega)]; exact h.op i hi
  · rw [cell_set_off _ _ _ _ _ (by omega)]; exact h.num i hi
  · by_cases e : i = k
    · subst e; rw [cell_set_same _ _ _ _ (by rw [h.tos i hi]; rfl), hx]
    · rw [cell_set_off _ _ _ _ _ (by omega), ho i hi e]; exact h.tos i hi
  · rw [cell_set_off _ _ _ _ _ (by omega)]; exact h.pls i hi
theorem RowQ.weak {w : World} {gi n : Nat} {fo fn ft ft' fp : Nat → Int} (h : RowQ w gi n fo fn ft fp) (ho : ∀ i, i < n → ft' i = ft i) : RowQ w gi n fo fn ft' fp :=
  ⟨h.op, h.num, fun i hi => by rw [ho i hi]; exact h.tos i hi, h.pls⟩
end Go.Proofs.YtfkdailfcmnjlaaGreatDoor

namespace Go.Proofs.YtfkdailfcmnjlaaGreatDoor
open Go Go.RowKit
set_option maxRecDepth 100000
attribute [local go_sem ↓] Go.wp_at_zero Go.wp_at_succ

/-- Instructions whose jumps weren't looked for, in memory. -/
def ic0 (l : List Ins) : List Value := l.flatMap fun x => [.int .i64 (x.op : Nat), .int .i64 x.n, .int .i64 0, .int .i64 (x.pl : Nat)]
theorem ic0_snoc (l : List Ins) (x : Ins) : ic0 (l ++ [x]) = ic0 l ++ [.int .i64 (x.op : Nat), .int .i64 x.n, .int .i64 0, .int .i64 (x.pl : Nat)] := by simp [ic0]
/-- Between the rounds of reading. -/
structure RdI (w wr : World) (b : List UInt8) (a : Nat) (D : Option (List Ins)) (pre : List Ins) (v : Value) : Prop where
  bel : Below w.heap.size w wr
  blk : wr.heap[w.heap.size]? = some (.cells #[.int .i64 (byteAt b 2 : Nat), v, .int .i64 (byteAt b 1 : Nat)] 253 (0, 0))
  row : wr.ownsRow w.heap.size 247 4 v pre.length (ic0 pre)
  dcd : ∃ f, b.length < a + f ∧ D = (dec f b a).map (pre ++ ·)
  len : pre.length + 3 ≤ a
  lo : a ≤ b.length
theorem RdI.at_ {w wr w3 : World} {b : List UInt8} {a : Nat} {D : Option (List Ins)} {pre : List Ins} {v : Value} (h : RdI w wr b a D pre v) (h3 : Below wr.heap.size wr w3) : w3.heap[w.heap.size]? = some (.cells #[.int .i64 (byteAt b 2 : Nat), v, .int .i64 (byteAt b 1 : Nat)] 253 (0, 0)) ∧ w3.ownsRow w.heap.size 247 4 v pre.length (ic0 pre) ∧ Below w.heap.size w w3 ∧ w.heap.size < wr.heap.size :=
  ⟨(h3.block _ (lt_of_get h.blk)).trans h.blk, ownsRow_below h.row h3, h.bel.trans (h3.mono h.bel.size), lt_of_get h.blk⟩
theorem row_apart {w : World} {base cp : Nat} {v : Value} {n : Nat} {xs cs : List Value} (h : w.ownsRow base 247 4 v n xs) (hc : w.heap[cp]? = some (.cells cs.toArray 253 (0, 0))) : some cp ≠ v.ownBlock := fun e => by
  obtain ⟨cs', h'⟩ := ownsRow_type h e.symm
  rw [hc] at h'; simp at h'
theorem RdI.next {w wr w3 w4 : World} {b : List UInt8} {a a' : Nat} {D : Option (List Ins)} {pre : List Ins} {v v' : Value} {x : Ins} {o' : Obj} (h : RdI w wr b a D pre v) (h3 : Below wr.heap.size wr w3) (hgrow : (w3.alloc o').grownBy w4 v.ownBlock) (hown : w4.ownsRow w.heap.size 247 4 v' (pre.length + 1) (ic0 pre ++ [.int .i64 (x.op : Nat), .int .i64 x.n, .int .i64 0, .int .i64 (x.pl : Nat)]))
    (hd : ∃ f, b.length < a' + f ∧ D = (dec f b a').map ((pre ++ [x]) ++ ·)) (ha : a + 1 ≤ a') (ha2 : a' ≤ b.length) : RdI w (w4.setCell ⟨w.heap.size, 1, none⟩ v') b a' D (pre ++ [x]) v' := by
  obtain ⟨q1, q2, q3, q4⟩ := h.at_ h3
  have hs := h3.size
  have hne := row_apart (cs := [_, _, _]) q2 q1
  have hblk : w4.heap[w.heap.size]? = _ := (hgrow.block _ (by rw [World.size_alloc]; omega) hne).trans ((Below.heap_alloc w3 o' _ (by omega)).trans q1)
  have hne2 := row_apart (cs := [_, _, _]) hown hblk
  refine ⟨?_, ?_, ?_, hd, by have := h.len; simp; omega, ha2⟩
  · have hb3 : Below w.heap.size w (w3.alloc o') := q3.alloc q3.size _
    exact (Below.grown hb3 hgrow hb3.size (fun k hk => (q2.lt k hk).1)).setCell (by simp) _
  · rw [heap_setCell_same w4 _ 1 _ _ _ hblk]; rfl
  · rw [List.length_append, ic0_snoc]
    exact ownsRow_setCell_other hown (a := ⟨w.heap.size, 1, none⟩) (fun e => hne2 e.symm) _
end Go.Proofs.YtfkdailfcmnjlaaGreatDoor

namespace Go.Proofs.YtfkdailfcmnjlaaGreatDoor
open Go Go.RowKit
set_option maxRecDepth 100000
attribute [local go_sem ↓] Go.wp_at_zero Go.wp_at_succ

/-- The machine's state: the stack (the lowest first), the cells, the next instruction, has it ended, the verdict. -/
structure MS where
  st : List Int
  cl : List Int
  next : Int
  ended : Bool
  al : Bool
  ru : Int
  stp : Int
def macC (vs vc : Value) (fl : List Int) (s : MS) : Array Value := #[vs, vc, .int .i64 (fl.getD 0 0), .int .i64 (fl.getD 1 0), .int .i64 (fl.getD 2 0), .int .i64 (fl.getD 3 0), .int .i64 (fl.getD 4 0), .int .i64 (fl.getD 5 0), .int .i64 (fl.getD 6 0), .int .i64 (fl.getD 7 0), .int .i64 (fl.getD 8 0), .int .i64 s.next, .bool s.ended, .bool s.al, .int .i64 s.ru, .int .i64 s.stp]
structure MacAt (w : World) (p : Nat) (vs vc : Value) (fl : List Int) (s : MS) : Prop where
  blk : w.heap[p]? = some (.cells (macC vs vc fl s) 257 (0, 0))
  st : IR w 112 vs s.st
  cl : IR w 112 vc s.cl
  ne : ∀ b, vs.ownBlock = some b → vc.ownBlock ≠ some b
theorem MacAt.lt {w : World} {p : Nat} {vs vc : Value} {fl : List Int} {s : MS} (h : MacAt w p vs vc fl s) {b : Nat} (hb : Foot p vs vc b) : b < w.heap.size := by
  rcases hb with rfl | hb | hb
  · exact lt_of_get h.blk
  · exact (h.st.lt b hb).2
  · exact (h.cl.lt b hb).2
theorem MacAt.only {w w' : World} {p : Nat} {vs vc : Value} {fl : List Int} {s : MS} (h : MacAt w p vs vc fl s) {F : Nat → Prop} (ho : Only F w w') (hF : ∀ b, Foot p vs vc b → ¬ F b) : MacAt w' p vs vc fl s :=
  ⟨(ho.block p (lt_of_get h.blk) (hF p (.inl rfl))).trans h.blk, h.st.only ho (fun g hg => hF g (.inr (.inl hg))), h.cl.only ho (fun g hg => hF g (.inr (.inr hg))), h.ne⟩
theorem MacAt.drew {w : World} {p : Nat} {vs vc : Value} {fl : List Int} {s : MS} (h : MacAt w p vs vc fl s) : MacAt w.drew p vs vc fl s := ⟨h.blk, h.st, h.cl, h.ne⟩
def MOut (w w' : World) (p : Nat) (vs vc : Value) (fl : List Int) (s : MS) : Prop :=
  ∃ vs', MacAt w' p vs' vc fl s ∧ Only (Foot p vs vc) w w' ∧ ∀ b, Foot p vs' vc b → Foot p vs vc b ∨ w.heap.size ≤ b
theorem MOut.refl {w : World} {p : Nat} {vs vc : Value} {fl : List Int} {s : MS} (h : MacAt w p vs vc fl s) : MOut w w p vs vc fl s := ⟨vs, h, Only.refl _ _, fun _ hb => .inl hb⟩
theorem MOut.then {w w1 w2 : World} {p : Nat} {vs vc vs1 : Value} {fl : List Int} {s2 : MS} (ho : Only (Foot p vs vc) w w1) (hf : ∀ b, Foot p vs1 vc b → Foot p vs vc b ∨ w.heap.size ≤ b) (h2 : MOut w1 w2 p vs1 vc fl s2) : MOut w w2 p vs vc fl s2 := by
  obtain ⟨vs2, hs, ho2, hf2⟩ := h2
  refine ⟨vs2, hs, ho.trans ho2 (fun _ _ h => h) (fun i hi h => ?_), fun b hb => ?_⟩
  · rcases hf i h with h | h
    · exact h
    · omega
  · rcases hf2 b hb with h | h
    · exact hf b h
    · right; have := ho.size; omega
theorem MOut.only {w w' : World} {p : Nat} {vs vc : Value} {fl : List Int} {s : MS} (h : MOut w w' p vs vc fl s) : Only (Foot p vs vc) w w' := by
  obtain ⟨_, _, h, _⟩ := h; exact h
theorem MOut.drew {w w' : World} {p : Nat} {vs vc : Value} {fl : List Int} {s : MS} (h : MOut w w' p vs vc fl s) : MOut w w'.drew p vs vc fl s := by
  obtain ⟨vs', h1, h2, h3⟩ := h
  exact ⟨vs', h1.drew, h2.drew, h3⟩
theorem mty_ne : 257 ≠ 112 := by decide
/-- A machine's number or truth is written. -/
theorem MOut.put {w w1 : World} {p : Nat} {vs vc : Value} {fl : List Int} {s s' : MS} (h : MOut w w1 p vs vc fl s) (o : Nat) (v : Value) (hs : ∀ vs vc, (macC vs vc fl s).setIfInBounds o v = macC vs vc fl s') (h1 : s'.st = s.st) (h2 : s'.cl = s.cl) : MOut w (w1.setCell ⟨p, o, none⟩ v) p vs vc fl s' := by
  obtain ⟨vs1, h, ho1, hf1⟩ := h
  refine MOut.then ho1 hf1 ?_
  have ho : Only (fun b => b = p) w1 (w1.setCell ⟨p, o, none⟩ v) := (Only.refl (fun b => b = p) w1).setCell (.inl rfl) _
  refine ⟨vs1, ⟨by rw [heap_setCell_same w1 p o _ _ _ h.blk, hs], ?_, ?_, h.ne⟩, ho.weak (fun i _ hi => .inl hi), fun b hb => .inl hb⟩
  · rw [h1]; exact h.st.only ho (fun g hg e => h.st.ne h.blk mty_ne (by rw [← e]; exact hg))
  · rw [h2]; exact h.cl.only ho (fun g hg e => h.cl.ne h.blk mty_ne (by rw [← e]; exact hg))
theorem MOut.cells {w w1 : World} {p : Nat} {vs vc : Value} {fl : List Int} {s : MS} (h : MOut w w1 p vs vc fl s) : w1.cell? ⟨p, 11, none⟩ = some (.int .i64 s.next) ∧ w1.cell? ⟨p, 12, none⟩ = some (.bool s.ended) ∧ w1.cell? ⟨p, 13, none⟩ = some (.bool s.al) ∧ w1.cell? ⟨p, 14, none⟩ = some (.int .i64 s.ru) ∧ w1.cell? ⟨p, 15, none⟩ = some (.int .i64 s.stp) ∧ ∀ o, w1.frozen? ⟨p, o, none⟩ = false := by
  obtain ⟨vs1, h, _, _⟩ := h
  have hc := fun j => cell_of_row w1 p j _ _ _ h.blk
  exact ⟨hc 11, hc 12, hc 13, hc 14, hc 15, fun o => by simp [World.frozen?, h.blk]⟩
end Go.Proofs.YtfkdailfcmnjlaaGreatDoor
