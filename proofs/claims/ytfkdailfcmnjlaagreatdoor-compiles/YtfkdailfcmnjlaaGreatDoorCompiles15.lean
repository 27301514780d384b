/-
  The reference's function 'read': its items. What is known of the words of a text, and of a policy that the plain reader read. The reference's functions 'read' and 'Check' answer as the plain reading does, of every text. What a policy says of an event: plain Lean functions; the document's scalars.
-/
import Derived.Test.YtfkdailfcmnjlaaGreatDoorCompiles01
import Derived.Test.YtfkdailfcmnjlaaGreatDoorCompiles04
import Derived.Test.YtfkdailfcmnjlaaGreatDoorCompiles05
import Derived.Test.YtfkdailfcmnjlaaGreatDoorCompiles06
import Derived.Test.YtfkdailfcmnjlaaGreatDoorCompiles07
import Derived.Test.YtfkdailfcmnjlaaGreatDoorCompiles08
import Derived.Test.YtfkdailfcmnjlaaGreatDoorCompiles09
import Derived.Test.YtfkdailfcmnjlaaGreatDoorCompiles10
import Derived.Test.YtfkdailfcmnjlaaGreatDoorCompiles11
import Derived.Test.YtfkdailfcmnjlaaGreatDoorCompiles12
import Derived.Test.YtfkdailfcmnjlaaGreatDoorCompiles13
import Derived.Test.YtfkdailfcmnjlaaGreatDoorCompiles14
import Derived.WalkKit
import Derived.Deep.QuietTactic
import Derived.BigQuiet
import Derived.WalkSpells
import GoSem.Op.String
import Derived.Deep.AppendLies
import Derived.Deep.RegionHeld3
import Derived.Deep.DrawnRows
import Derived.Deep.RegionHeldLaw
import Derived.Deep.RegionLaw
set_option linter.unusedVariables false
set_option linter.unusedSimpArgs false
namespace Go.Proofs.YtfkdailfcmnjlaaGreatDoor
open Go Go.RowKit
set_option maxRecDepth 100000
attribute [local go_sem ↓] Go.wp_at_zero Go.wp_at_succ

theorem info_item : (Tryz.prog.info? 95).map (fun i => (i.zero, i.size, i.bytes)) = some (some (.agg #[.string ⟨#[]⟩, .bool false, .int .i64 0, .int .i64 0, .int .i64 0, .int .i64 0]), 6, 56) := by kernel_rfl

/-- What must be known of a policy that was read. -/
structure Facts (L : List Pt) (xs : List Itm) : Prop where
  ahead : Ahead L
  top : ∀ x ∈ xs, x.top < L.length
  parts : ∀ x ∈ xs, x.parts ≤ L.length
  fine : namesAt xs L xs 0 0 = none → ∀ j (hj : j < xs.length), ∃ Good : Nat → Prop, Fine xs j L Good ∧ Good xs[j].top

/-- At the head of the loop over the items. -/
structure AtItem (F : Nat) (ts : List Tok) (R : AllR) (rb gl cl : Nat) (w : World) (s : St) (xs : List Itm) (iv : Value) (wr : World) : Prop where
  rs : RS w.heap.size rb gl cl ts s wr
  good : s.bad = false
  nums : NumsOK s
  below : Below w.heap.size w wr
  res : wr.heap[w.heap.size]? = some (polV (.slice none 0 0) (.slice none 0 0))
  pol : wr.heap[w.heap.size + 1]? = some (polV iv (.slice none 0 0))
  row : wr.ownsRow w.heap.size 95 6 iv xs.length (itmCells xs)
  few : xs.length ≤ s.i
  rest : ∃ g, parseAll F ts g s.i (s.ps.map toPt) xs = some R
  apart : rb ≠ w.heap.size ∧ rb ≠ w.heap.size + 1
  empty : xs = [] → iv = .slice none 0 0

/-- A reader stands where blocks of other types alone have turned. -/
theorem RS.types {B rb gl cl : Nat} {ts : List Tok} {s : St} {w w' : World} (h : RS B rb gl cl ts s w) (ho : ∀ (k : Nat) (cs : Array Value) (e : TypeId), w.heap[k]? = some (.cells cs e (0, 0)) → e ≠ 95 → e ≠ 90 → w'.heap[k]? = w.heap[k]?) : RS B rb gl cl ts s w' := by
  refine ⟨?_, ?_, ?_, ?_, h.hb, h.hi, h.hn, h.fin, h.few⟩
  · rw [ho _ _ _ h.rd (by decide) (by decide)]; exact h.rd
  · refine ownsRow_of_block h.words fun k hk => ?_
    obtain ⟨cs', hc⟩ := ownsRow_type h.words hk
    exact ho k cs' _ hc (by decide) (by decide)
  · refine ownsRow_of_block h.parts fun k hk => ?_
    obtain ⟨cs', hc⟩ := ownsRow_type h.parts hk
    exact ho k cs' _ hc (by decide) (by decide)
  · intro p hp
    exact (h.subs p hp).of fun k cs' hk => ho k cs' _ hk (by decide) (by decide)

theorem Fr.under {B rb gl cl : Nat} {ts : List Tok} {s : St} {pv' : Value} {w w' : World} (h : RS B rb gl cl ts s w) (hF : Fr rb s.pv pv' w w') (hB : B ≤ w.heap.size) : Below B w w' :=
  ⟨hF.os, hF.tape, hF.output, hF.size, fun k hk => hF.block k (by omega) (by have := h.hb; omega) (fun e => by have := (h.parts.lt k e.symm).1; omega)⟩
theorem Fr.row {B rb gl cl : Nat} {ts : List Tok} {s s' : St} {w w' : World} (h : RS B rb gl cl ts s w) (hF : Fr rb s.pv s'.pv w w') {base : Nat} {v : Value} {n : Nat} {ys : List Value} (hr : w.ownsRow base 95 6 v n ys) : w'.ownsRow base 95 6 v n ys := by
  refine ownsRow_of_block hr fun k hk => ?_
  obtain ⟨cs, hc⟩ := ownsRow_type hr hk
  refine hF.block k (lt_of_get hc) (fun e => ?_) (own_ne h hc (by simp))
  subst e; rw [h.rd] at hc; simp at hc

theorem cell_six_new2 (w : World) (o : Obj) (x : Itm) : ∀ j u, [S x.name, .bool x.allow, .int .i64 x.top, .int .i64 x.pl, .int .i64 x.named, .int .i64 x.parts][j]? = some u → ((w.alloc o).alloc (itmObj x)).cell? ((⟨w.heap.size + 1, 0, none⟩ : Addr).add j) = some u := by
  have h := World.news_of_block (w := (w.alloc o).alloc (itmObj x)) (B := w.heap.size + 1) (cs := #[S x.name, .bool x.allow, .int .i64 x.top, .int .i64 x.pl, .int .i64 x.named, .int .i64 x.parts]) (t := 95) (fr := (0, 0)) (by have e := heap_alloc_new (w.alloc o) (itmObj x); rw [World.size_alloc] at e; exact e)
  intro j u hu
  exact h j u (by simpa using hu)

theorem one6 (x : Itm) : ∀ u ∈ [S x.name, .bool x.allow, .int .i64 x.top, .int .i64 x.pl, .int .i64 x.named, .int .i64 x.parts], u.oneCell' = true := by
  intro u hu
  simp at hu
  rcases hu with rfl | rfl | rfl | rfl | rfl | rfl <;> rfl
/-- Behind an append to the items a block of another type is as it was. -/
theorem item_far {w w' : World} {o1 o2 : Obj} {base n : Nat} {iv : Value} {ys : List Value} (hr : w.ownsRow base 95 6 iv n ys) (hg : ((w.alloc o1).alloc o2).grownBy w' iv.ownBlock) {k : Nat} {cs : Array Value} {e : TypeId} (hk : w.heap[k]? = some (.cells cs e (0, 0))) (he : e ≠ 95) : w'.heap[k]? = some (.cells cs e (0, 0)) := by
  rw [hg.block k (by have := lt_of_get hk; simp; omega) (fun e' => by obtain ⟨cs', hc⟩ := ownsRow_type hr e'.symm; rw [hk] at hc; simp at hc; exact he hc.2), Below.heap_alloc _ _ _ (by have := lt_of_get hk; simp; omega), Below.heap_alloc _ _ _ (lt_of_get hk)]
  exact hk

theorem at_next {F : Nat} {ts : List Tok} {R : AllR} {rb gl cl : Nat} {w w5 w7 : World} {s' : St} {xs : List Itm} {x : Itm} {iv v : Value} {o1 o2 : Obj} (h5 : RS w.heap.size rb gl cl ts s' w5) (good : s'.bad = false) (nums : NumsOK s') (hB5 : Below w.heap.size w w5)
    (hres5 : w5.heap[w.heap.size]? = some (polV (.slice none 0 0) (.slice none 0 0))) (hpol5 : w5.heap[w.heap.size + 1]? = some (polV iv (.slice none 0 0))) (hrow5 : w5.ownsRow w.heap.size 95 6 iv xs.length (itmCells xs))
    (hg : ((w5.alloc o1).alloc o2).grownBy w7 iv.ownBlock) (hown7 : w7.ownsRow w.heap.size 95 6 v (xs.length + 1) (itmCells xs ++ [S x.name, .bool x.allow, .int .i64 x.top, .int .i64 x.pl, .int .i64 x.named, .int .i64 x.parts]))
    (few : xs.length + 1 ≤ s'.i) (rest : ∃ g, parseAll F ts g s'.i (s'.ps.map toPt) (xs ++ [x]) = some R) (apart : rb ≠ w.heap.size ∧ rb ≠ w.heap.size + 1) :
    AtItem F ts R rb gl cl w s' (xs ++ [x]) v (w7.setCell ⟨w.heap.size + 1, 0, none⟩ v) := by
  have hpol7 := item_far hrow5 hg hpol5 (by decide)
  have hsz := hB5.size
  refine ⟨?_, good, nums, ?_, ?_, ?_, ?_, by simpa using few, rest, apart, by simp⟩
  · refine h5.types fun k cs e hk h1 h2 => ?_
    rw [Below.heap_setCell _ _ _ _ (fun hh => by simp at hh; subst hh; rw [hpol5] at hk; simp at hk; exact h2 hk.2.symm), item_far hrow5 hg hk h1, hk]
  · exact (Below.grown ((hB5.alloc (by omega) _).alloc (by simp; omega) _) hg (by simp; omega) (fun j hj => (hrow5.lt _ hj).1)).setCell (p := ⟨w.heap.size + 1, 0, none⟩) (by simp) _
  · rw [Below.heap_setCell _ _ _ _ (by simp)]; exact item_far hrow5 hg hres5 (by decide)
  · rw [heap_setCell_same w7 _ 0 _ _ _ hpol7]; simp
  · have h2 : w7.ownsRow w.heap.size 95 6 v (xs ++ [x]).length (itmCells (xs ++ [x])) := by rw [itmCells_snoc]; simpa using hown7
    refine ownsRow_of_block h2 fun k hk => Below.heap_setCell _ _ _ _ fun e => ?_
    simp at e; subst e
    obtain ⟨cs, hc⟩ := ownsRow_type h2 hk
    rw [hpol7] at hc; simp at hc

/-- Behind the items: the policy lies in its box. -/
structure Held (w : World) (xs : List Itm) (ps : List PartS) (iv pv : Value) (W : World) : Prop where
  below : Below w.heap.size w W
  res : W.heap[w.heap.size]? = some (polV (.slice none 0 0) (.slice none 0 0))
  pol : W.heap[w.heap.size + 1]? = some (polV iv pv)
  items : ItemsIn w.heap.size iv xs W
  row : W.ownsRow w.heap.size 169 5 pv ps.length (partCells ps)
  subs : ∀ p ∈ ps, SubsOK W p
  few : ps.length ≤ 1001
theorem Held.next {w : World} {xs : List Itm} {ps : List PartS} {iv pv : Value} {W W' : World} (h : Held w xs ps iv pv W) (hb : Below W.heap.size W W') : Held w xs ps iv pv W' :=
  ⟨h.below.trans (hb.mono h.below.size), by rw [hb.block _ (lt_of_get h.res)]; exact h.res, by rw [hb.block _ (lt_of_get h.pol)]; exact h.pol, h.items.below hb, ownsRow_below h.row hb, fun p hp => (h.subs p hp).of fun k _ hk => hb.block k (lt_of_get hk), h.few⟩
theorem Held.cells {w : World} {xs : List Itm} {ps : List PartS} {iv pv : Value} {W : World} (h : Held w xs ps iv pv W) :
    (W.cell? ⟨w.heap.size, 0, none⟩ = some (.slice none 0 0) ∧ W.cell? ⟨w.heap.size, 1, none⟩ = some (.slice none 0 0) ∧ W.cell? ⟨w.heap.size + 1, 0, none⟩ = some iv ∧ W.cell? ⟨w.heap.size + 1, 1, none⟩ = some pv) ∧ (∀ j, W.frozen? ⟨w.heap.size, j, none⟩ = false) := by
  have h1 := fun j => cell_of_row W w.heap.size j _ _ _ h.res
  have h2 := fun j => cell_of_row W (w.heap.size + 1) j _ _ _ h.pol
  exact ⟨⟨h1 0, h1 1, h2 0, h2 1⟩, fun j => by simp [World.frozen?, h.res]⟩
/-- The answer, where all went well. -/
theorem Held.out {w : World} {xs : List Itm} {ps : List PartS} {a a' : Option Addr} {b c b' c' : Nat} {W : World} (h : Held w xs ps (.slice a b c) (.slice a' b' c') W) (hn : ∀ p ∈ ps, p.n = numOf p.tok) :
    ReadAns 0 0 (ps.map toPt) xs w (.returned (.tuple #[.agg #[.slice a b c, .slice a' b' c'], .int .i64 (0 : Nat), .int .i64 (0 : Nat)])) ((W.setCell ⟨w.heap.size, 0, none⟩ (.slice a b c)).setCell ⟨w.heap.size, 1, none⟩ (.slice a' b' c')) := by
  have hty : ∀ (k : Nat) (cs : Array Value) (e : TypeId), W.heap[k]? = some (.cells cs e (0, 0)) → e ≠ 90 → ((W.setCell ⟨w.heap.size, 0, none⟩ (.slice a b c)).setCell ⟨w.heap.size, 1, none⟩ (.slice a' b' c')).heap[k]? = W.heap[k]? := fun k cs e hk he => by
    have hne : k ≠ w.heap.size := fun hh => by subst hh; rw [h.res] at hk; simp at hk; exact he hk.2.symm
    rw [Below.heap_setCell _ _ _ _ hne, Below.heap_setCell _ _ _ _ hne]
  refine ⟨(h.below.setCell (p := ⟨w.heap.size, 0, none⟩) (Nat.le_refl _) _).setCell (p := ⟨w.heap.size, 1, none⟩) (Nat.le_refl _) _, _, _, rfl, ⟨_, _, _, rfl⟩, ⟨_, _, _, rfl⟩, fun e => absurd rfl e, fun _ => ⟨⟨?_, h.items.few⟩, ps, ?_, ?_, h.few, hn, rfl⟩⟩
  · refine ownsRow_of_block h.items.row fun k hk => ?_
    obtain ⟨cs, hc⟩ := ownsRow_type h.items.row hk
    exact hty k cs _ hc (by decide)
  · refine ownsRow_of_block h.row fun k hk => ?_
    obtain ⟨cs, hc⟩ := ownsRow_type h.row hk
    exact hty k cs _ hc (by decide)
  · intro p hp
    exact (h.subs p hp).of fun k cs hk => hty k cs _ hk (by decide)
theorem AtItem.held {F : Nat} {ts : List Tok} {R : AllR} {rb gl cl : Nat} {w wr : World} {s : St} {xs : List Itm} {iv : Value} (ha : AtItem F ts R rb gl cl w s xs iv wr) : Held w xs s.ps iv s.pv ((wr.setCell ⟨w.heap.size + 1, 1, none⟩ s.pv).drew) := by
  have hty : ∀ (k : Nat) (cs : Array Value) (e : TypeId), wr.heap[k]? = some (.cells cs e (0, 0)) → e ≠ 90 → ((wr.setCell ⟨w.heap.size + 1, 1, none⟩ s.pv).drew).heap[k]? = wr.heap[k]? := fun k cs e hk he => Below.heap_setCell _ _ _ _ fun hh => by
    simp at hh; subst hh; rw [ha.pol] at hk; simp at hk; exact he hk.2.symm
  have hi := ha.rs.hi
  have hn := ha.rs.hn
  have hf := ha.rs.few
  refine ⟨(ha.below.setCell (p := ⟨w.heap.size + 1, 1, none⟩) (by simp) _).drew, ?_, ?_, ⟨?_, by have := ha.few; omega⟩, ?_, ?_, by omega⟩
  · show (wr.setCell ⟨w.heap.size + 1, 1, none⟩ s.pv).heap[w.heap.size]? = _
    rw [Below.heap_setCell _ _ _ _ (by simp)]; exact ha.res
  · show (wr.setCell ⟨w.heap.size + 1, 1, none⟩ s.pv).heap[w.heap.size + 1]? = _
    rw [heap_setCell_same wr _ 1 _ _ _ ha.pol]; simp
  · refine ownsRow_of_block ha.row fun k hk => ?_
    obtain ⟨cs, hc⟩ := ownsRow_type ha.row hk
    exact hty k cs _ hc (by decide)
  · refine ownsRow_of_block ha.rs.parts fun k hk => ?_
    obtain ⟨cs, hc⟩ := ownsRow_type ha.rs.parts hk
    exact hty k cs _ hc (by decide)
  · intro p hp
    exact (ha.rs.subs p hp).of fun k cs hk => hty k cs _ hk (by decide)

set_option maxHeartbeats 8000000 in
theorem read_items (l : List UInt8) (w : World) (hl : l.length ≤ 1000) (ts : List Tok) (hx : lex (l.length + 1) l 0 = (ts, none)) (hts : ∀ t ∈ ts, TokOK t) (hn : 0 < ts.length ∧ ts.length ≤ 1001) (hfin : ∀ i, i + 1 = ts.length → (ts.getD i noTok).k = 101)
    (F g : Nat) (R : AllR) (hR : parseAll F ts g 0 [] [] = some R) (hF : R.ok = true → Facts R.L R.xs) (hmono : ∀ i L r, itemP F ts i L = some r → r.ok = true → i < r.i) :
    Calls Tryz.prog 33 #[S l] w (ReadAns (verdictOf ts R).1 (verdictOf ts R).2 R.L R.xs w) := by
  obtain ⟨i0, hi, hz0, hz1, hz2⟩ := info_parts info_item
  obtain ⟨hB0, hR0, hP0⟩ := two_new w (polV (.slice none 0 0) (.slice none 0 0)) (polV (.slice none 0 0) (.slice none 0 0))
  have HL : Hid _ := hx
  have HH : Hid _ := And.intro hB0 (And.intro hR0 hP0)
  have HR : Hid _ := hR
  have HF : Hid _ := hF
  have HM : Hid _ := hmono
  clear hx hB0 hR0 hP0 hR hF hmono
  go_enter Tryz.func33, Tryz.ntmps33
  go_wp2_with fail
  refine (words_any l _ hl).mono ?_
  rintro e w1 ⟨hb1, hans⟩
  rw [HL.out] at hans
  simp only at hans
  obtain ⟨gl, cl, rfl, hown⟩ := hans
  obtain ⟨hB0, hR0, hP0⟩ := HH.out
  have hs0 : ((w.alloc (polV (.slice none 0 0) (.slice none 0 0))).alloc (polV (.slice none 0 0) (.slice none 0 0))).heap.size = w.heap.size + 2 := by simp
  have hs1 := hb1.size
  rw [hs0] at hs1
  have hstart : AtItem F ts R w1.heap.size gl cl w ⟨0, .slice none 0 0, [], false⟩ [] (.slice none 0 0) (w1.alloc (.cells #[.slice (some ⟨gl, 0, none⟩) ts.length cl, .int .i64 0, .slice none 0 0, .bool false] 149)) := by
    have hB1 : Below w.heap.size w w1 := hB0.trans (hb1.mono hB0.size)
    refine ⟨⟨heap_alloc_new w1 _, ?_, World.ownsRow_nil _ _ _ _, by simp, by omega, hn.1, hn.2, hfin, Nat.le_refl _⟩, rfl, by intro p hp; simp at hp, hB1.alloc (by omega) _, ?_, ?_, World.ownsRow_nil _ _ _ _, Nat.le_refl _, ⟨g, HR.out⟩, by omega, fun _ => rfl⟩
    · exact ownsRow_weak (hown.alloc _) (by rw [hs0]; omega)
    · rw [Below.heap_alloc _ _ _ (by omega), hb1.block _ (lt_of_get hR0)]; exact hR0
    · rw [Below.heap_alloc _ _ _ (by omega), hb1.block _ (lt_of_get hP0)]; exact hP0
  have HS : Hid _ := hstart
  clear hstart hown hb1 hB0 hR0 hP0 HH hs0 HL
  go_wp2_with fail
  go_loopw [9] (fun _ wr => ∃ (s : St) (xs : List Itm) (iv : Value), AtItem F ts R w1.heap.size gl cl w s xs iv wr) (fun _ wr => ts.length - rdI w1.heap.size wr)
  case atStart => exact ⟨_, _, _, HS.out⟩
  case round =>
    obtain ⟨s, xs, iv, ha⟩ := hrel
    generalize hrb : w1.heap.size = rb at *
    clear hrb HS
    have h := ha.rs
    obtain ⟨c0, c1, c2, c3⟩ := h.cells
    obtain ⟨k0, k1, k2⟩ := next_word h
    have hii := h.hi
    have b1 : (0 : Int) ≤ (s.i : Int) := by omega
    have b2 : (s.i : Int) < (ts.length : Int) := by omega
    go_wp2_with fail
    go_region_held (fun w' => w'.cell? ⟨rb, 0, none⟩ = some (.slice (some ⟨gl, 0, none⟩) ts.length cl) ∧ w'.cell? ⟨rb, 1, none⟩ = some (.int .i64 s.i) ∧ w'.cell? ⟨gl, s.i * 3, none⟩ = some (.int .u8 (tokAt ts s.i).k) ∧ w'.cell? ⟨gl, s.i * 3 + 1, none⟩ = some (S (tokAt ts s.i).text) ∧ w'.cell? ⟨gl, s.i * 3 + 2, none⟩ = some (.int .i64 (tokAt ts s.i).pl)) (go_keep) (fail)
    rename_i hHeld
    clear hHeld
    have hd : Below wr.heap.size wr wr.drew := (Below.refl _ _).drew
    have hsz := ha.below.size
    clear c0 c1 c2 c3 k0 k1 k2
    by_cases hk : (tokAt ts s.i).k = 101
    · have hk1 : (((tokAt ts s.i).k : Int) != 101) = false := by simp; omega
      obtain ⟨g0, hg0⟩ := ha.rest
      have hRR := parse_end hg0 hk
      have hH := ha.held
      have HRR : Hid _ := hRR
      have HFA : Hid (Facts (s.ps.map toPt) xs) := by have := HF.out (by rw [hRR]); rw [hRR] at this; exact this
      have HNU : Hid _ := ha.nums
      obtain ⟨pa, pc, hpv⟩ := h.pv_form
      obtain ⟨c0, c1, c2, c3⟩ := h.cells
      have p1 := cell_of_row wr (w.heap.size + 1) 1 _ _ _ ha.pol
      have pf : wr.frozen? ⟨w.heap.size + 1, 1, none⟩ = false := by simp [World.frozen?, ha.pol]
      simp only [List.getElem?_toArray, List.getElem?_cons_zero, List.getElem?_cons_succ] at p1
      rw [hpv] at c2 hH
      obtain ⟨⟨r0, r1, x0, x1⟩, rf⟩ := hH.cells
      simp only [World.cell?_drew, World.frozen?_drew] at r0 r1 x0 x1 rf
      clear hk hg0 hRR
      have hHH : Hid _ := hH
      clear hH
      rcases ha.held.items.form with ⟨hiv, hx0⟩ | ⟨gi, ci, hiv⟩
      · -- no item at all
        subst hiv
        have hxs : xs = [] := List.length_eq_zero_iff.1 hx0
        go_wp2_with fail
        refine (many_none _ _ _ _).mono ?_
        rintro e w5 ⟨rfl, hb5⟩
        have hH5 := hHH.out.next hb5
        obtain ⟨⟨r0, r1, x0, x1⟩, rf⟩ := hH5.cells
        go_wp2_with fail
        refine (names_none _ _ _ _).mono ?_
        rintro e w6 ⟨rfl, hb6⟩
        have hH6 := hH5.next hb6
        obtain ⟨⟨r0, r1, x0, x1⟩, rf⟩ := hH6.cells
        go_wp2_with fail
        refine (types_none _ _ _ _).mono ?_
        rintro e w7 ⟨rfl, hb7⟩
        have hH7 := hH6.next hb7
        obtain ⟨⟨r0, r1, x0, x1⟩, rf⟩ := hH7.cells
        have hV : Hid (verdictOf ts R = (0, 0) ∧ R.L = s.ps.map toPt ∧ R.xs = xs) := by rw [HRR.out, hxs]; exact ⟨rfl, rfl, rfl⟩
        go_wp2_with fail
        exact bodyPost_ret (v := .tuple #[.agg #[.slice none 0 0, .slice pa s.ps.length pc], .int .i64 0, .int .i64 0]) (by simp [results, Tryz.results33, go_sem, cell_set_same, cell_set_off, some_set, r0, r1]) rfl (by rw [hV.out.1, hV.out.2.1, hV.out.2.2]; exact hH7.out HNU.out)
      · have hxs : xs ≠ [] := fun e => by have := ha.empty e; rw [hiv] at this; simp at this
        have hxl : 0 < xs.length := List.length_pos_iff.2 hxs
        have hps : 0 < s.ps.length := by
          have := HFA.out.top xs[0] (List.getElem_mem hxl)
          simp at this; omega
        obtain ⟨gp, cp, hpv2, _, _⟩ := ha.held.row.form hps
        rw [hpv] at hpv2
        subst hiv
        have hpa : pa = some ⟨gp, 0, none⟩ ∧ pc = cp := by simp at hpv2; exact hpv2
        obtain ⟨rfl, rfl⟩ := hpa
        have hfa := HFA.out
        have HTOP : Hid (∀ x ∈ xs, x.top < s.ps.length) := fun x hx => by simpa using hfa.top x hx
        have HPAR : Hid (∀ x ∈ xs, x.parts ≤ s.ps.length) := fun x hx => by simpa using hfa.parts x hx
        have HAHD : Hid _ := hfa.ahead
        have HFIN : Hid (namesAt xs (s.ps.map toPt) xs 0 0 = none → ∀ j (hj : j < xs.length), ∃ Good : Nat → Prop, Fine xs j (s.ps.map toPt) Good ∧ Good xs[j].top) := hfa.fine
        clear hfa hpv2 HFA
        have hPI := fun (W : World) (hW : Held w xs s.ps (.slice (some ⟨gi, 0, none⟩) xs.length ci) (.slice (some ⟨gp, 0, none⟩) s.ps.length pc) W) => (⟨hW.row, hW.subs, hW.few⟩ : PartsIn w.heap.size gp pc s.ps W)
        have HPI : Hid _ := hPI
        have hpfew := ha.held.few
        clear hPI
        go_wp2_with fail
        refine (many_any hHH.out.items (HPI.out _ hHH.out) HAHD.out HTOP.out (fun x hx => Nat.le_trans (HPAR.out x hx) hpfew)).mono ?_
        rintro e w5 ⟨rfl, hb5⟩
        have hH5 := hHH.out.next hb5
        obtain ⟨⟨r0, r1, x0, x1⟩, rf⟩ := hH5.cells
        cases hmany : manyAt (s.ps.map toPt) xs 0 0 with
        | some p =>
          have hV : Hid (verdictOf ts R = (4, p)) := by show _ = _; rw [HRR.out]; simp [verdictOf, hmany]
          unfold placeV
          clear hmany
          go_wp2_with fail
          exact bodyPost_ret (v := .tuple #[.agg #[.slice none 0 0, .slice none 0 0], .int .i64 4, .int .i64 p]) (by simp [results, Tryz.results33, go_sem, cell_set_same, cell_set_off, some_set, r0, r1]) rfl (by rw [hV.out]; exact ans_err (n := 4) (k := p) (by decide) ((hH5.below.setCell (p := ⟨w.heap.size, 0, none⟩) (Nat.le_refl _) _).setCell (p := ⟨w.heap.size, 1, none⟩) (Nat.le_refl _) _))
        | none =>
          have HMA : Hid _ := hmany
          unfold placeV
          clear hmany
          go_wp2_with fail
          refine (names_any hH5.items (HPI.out _ hH5) HPAR.out).mono ?_
          rintro e w6 ⟨rfl, hb6⟩
          have hH6 := hH5.next hb6
          obtain ⟨⟨r0, r1, x0, x1⟩, rf⟩ := hH6.cells
          cases hnames : namesAt xs (s.ps.map toPt) xs 0 0 with
          | some p =>
            have hV : Hid (verdictOf ts R = (5, p)) := by show _ = _; rw [HRR.out]; simp [verdictOf, HMA.out, hnames]
            unfold placeV
            clear hnames
            go_wp2_with fail
            exact bodyPost_ret (v := .tuple #[.agg #[.slice none 0 0, .slice none 0 0], .int .i64 5, .int .i64 p]) (by simp [results, Tryz.results33, go_sem, cell_set_same, cell_set_off, some_set, r0, r1]) rfl (by rw [hV.out]; exact ans_err (n := 5) (k := p) (by decide) ((hH6.below.setCell (p := ⟨w.heap.size, 0, none⟩) (Nat.le_refl _) _).setCell (p := ⟨w.heap.size, 1, none⟩) (Nat.le_refl _) _))
          | none =>
            have HNA : Hid _ := hnames
            unfold placeV
            clear hnames
            go_wp2_with fail
            refine (types_any hH6.items (HPI.out _ hH6) hH6.below.size HAHD.out HTOP.out (HFIN.out HNA.out)).mono ?_
            rintro e w7 ⟨rfl, hb7⟩
            have hH7 := hH6.next hb7
            obtain ⟨⟨r0, r1, x0, x1⟩, rf⟩ := hH7.cells
            cases htypes : typesAt xs (s.ps.map toPt) xs [] with
            | some p =>
              have hV : Hid (verdictOf ts R = (6, p)) := by show _ = _; rw [HRR.out]; simp [verdictOf, HMA.out, HNA.out, htypes]
              unfold placeV
              clear htypes
              go_wp2_with fail
              exact bodyPost_ret (v := .tuple #[.agg #[.slice none 0 0, .slice none 0 0], .int .i64 6, .int .i64 p]) (by simp [results, Tryz.results33, go_sem, cell_set_same, cell_set_off, some_set, r0, r1]) rfl (by rw [hV.out]; exact ans_err (n := 6) (k := p) (by decide) ((hH7.below.setCell (p := ⟨w.heap.size, 0, none⟩) (Nat.le_refl _) _).setCell (p := ⟨w.heap.size, 1, none⟩) (Nat.le_refl _) _))
            | none =>
              have hV : Hid (verdictOf ts R = (0, 0) ∧ R.L = s.ps.map toPt ∧ R.xs = xs) := by rw [HRR.out]; exact ⟨by simp [verdictOf, HMA.out, HNA.out, htypes], rfl, rfl⟩
              unfold placeV
              clear htypes
              go_wp2_with fail
              exact bodyPost_ret (v := .tuple #[.agg #[.slice (some ⟨gi, 0, none⟩) xs.length ci, .slice (some ⟨gp, 0, none⟩) s.ps.length pc], .int .i64 0, .int .i64 0]) (by simp [results, Tryz.results33, go_sem, cell_set_same, cell_set_off, some_set, r0, r1]) rfl (by rw [hV.out.1, hV.out.2.1, hV.out.2.2]; exact hH7.out HNU.out)
    · have hk1 : (((tokAt ts s.i).k : Int) != 101) = true := by simp; omega
      obtain ⟨g0, hg0⟩ := ha.rest
      obtain ⟨r, g', hitem, hres⟩ := parse_step hg0 hk
      have HRES : Hid _ := hres
      clear hg0 hres hk
      go_wp2_with fail
      refine (item_any (h.below hd) hts (by simp; omega) ha.good ha.nums hitem).mono ?_
      rintro e w5 ⟨s', x, rfl, h5, F5, gr, ii, st⟩
      have hB5 : Below w.heap.size w w5 := (ha.below.trans (hd.mono hsz)).trans (F5.under (h.below hd) (by simp; omega))
      have hres5 : w5.heap[w.heap.size]? = some (polV (.slice none 0 0) (.slice none 0 0)) := F5.far (by exact ha.res) (by omega) (own_ne (h.below hd) (by exact ha.res) (by simp))
      have hpol5 : w5.heap[w.heap.size + 1]? = some (polV iv (.slice none 0 0)) := F5.far (by exact ha.pol) (by omega) (own_ne (h.below hd) (by exact ha.pol) (by simp))
      have hrow5 := F5.row (h.below hd) (ownsRow_below ha.row hd)
      have hst : Hid _ := st
      have II : Hid _ := ii
      clear st ii F5
      have ap := ha.apart
      have hfew := ha.few
      unfold itmV
      rcases hst.out with ⟨ok, good, nums, hL, hxe⟩ | ⟨bk, bad⟩
      · have hnext : Hid (∃ g, parseAll F ts g s'.i (s'.ps.map toPt) (xs ++ [x]) = some R) := by
          rcases HRES.out with ⟨_, hh⟩ | ⟨hh, _⟩
          · exact ⟨g', by rw [II.out, hL, hxe]; exact hh⟩
          · rw [ok] at hh; simp at hh
        have hlt := HM.out _ _ _ hitem ok
        have hlt2 : s.i < s'.i := by rw [II.out]; exact hlt
        obtain ⟨c0, c1, c2, c3⟩ := h5.cells
        rw [good] at c3
        have p0 := cell_of_row w5 (w.heap.size + 1) 0 _ _ _ hpol5
        have lp := lt_of_get hpol5
        have lr := lt_of_get hres5
        have lrb := World.block_lt_of_cell? _ _ c0
        simp only [List.getElem?_toArray, List.getElem?_cons_zero, List.getElem?_cons_succ] at p0
        simp only at lrb
        have h5i := h5.hi
        have h5n := h5.hn
        have hBs := hB5.size
        have HG : Hid _ := good
        have HN : Hid _ := nums
        clear hst HRES hL hxe hitem hlt c0 c1 c2 good nums
        have pfz : ∀ W : World, W.heap[w.heap.size + 1]? = some (polV iv (.slice none 0 0)) → (W.cell? ⟨w.heap.size + 1, 0, none⟩ = some iv ∧ W.frozen? ⟨w.heap.size + 1, 0, none⟩ = false) := fun W hW => ⟨cell_of_row W _ 0 _ _ _ hW, by simp [World.frozen?, hW]⟩
        have HPF : Hid _ := pfz
        clear pfz
        go_wp2_with (
          at_builtin
          go_must (refine wpList_append_lies _ (by rfl) _ _ 87 (by rfl) w.heap.size 95 i0 (.agg #[.string ⟨#[]⟩, .bool false, .int .i64 0, .int .i64 0, .int .i64 0, .int .i64 0]) 6 56 Tryz.underlying87 hi hz0 hz1 hz2 (by rfl) (by decide) _ _ _ (by rfl) ((hrow5.alloc _).alloc _) ⟨w5.heap.size + 1, 0, none⟩ 1 1 [S x.name, .bool x.allow, .int .i64 x.top, .int .i64 x.pl, .int .i64 x.named, .int .i64 x.parts] (by rfl) (by rfl) (cell_six_new2 _ _ x) (one6 x) (by decide) (by unfold maxLen; omega) (by omega) (by simp; omega) _ rfl ?_)
          intro gt ct w7 hown7 hgrow7 hat7 hlt7
          have hpol7 := item_far hrow5 hgrow7 hpol5 (by decide)
          have hpp := HPF.out w7 hpol7
          obtain ⟨pp0, pp1⟩ := hpp)
        go_roundw
        case rel => exact ⟨s', xs ++ [x], _, at_next h5 HG.out HN.out hB5 hres5 hpol5 hrow5 hgrow7 hown7 (by omega) hnext.out ap⟩
        case measure =>
          rw [rdI_eq (at_next h5 HG.out HN.out hB5 hres5 hpol5 hrow5 hgrow7 hown7 (by omega) hnext.out ap).rs, rdI_eq h]
          omega
      · have hRR : Hid (R = ⟨false, r.i, [], []⟩) := by
          show _ = _; rcases HRES.out with ⟨hh, _⟩ | ⟨_, hh⟩
          · rw [bk] at hh; simp at hh
          · exact hh
        have h6 := h5.below ((Below.refl _ _).alloc (Nat.le_refl _) (itmObj x))
        have hres6 : (w5.alloc (itmObj x)).heap[w.heap.size]? = some (polV (.slice none 0 0) (.slice none 0 0)) := by rw [Below.heap_alloc _ _ _ (lt_of_get hres5)]; exact hres5
        have hB6 : Below w.heap.size w (w5.alloc (itmObj x)) := hB5.alloc (by have := hB5.size; omega) _
        have hpl : Hid ((tokAt ts s'.i).pl = (tokAt ts r.i).pl) := by show _ = _; rw [II.out]
        obtain ⟨c0, c1, c2, c3⟩ := h6.cells
        obtain ⟨k0, k1, k2⟩ := next_word h6
        rw [bad] at c3
        have hi6 := h6.hi
        have b3 : (0 : Int) ≤ (s'.i : Int) := by omega
        have b4 : (s'.i : Int) < (ts.length : Int) := by omega
        have l0 := World.block_lt_of_cell? _ _ c0
        have l1 := World.block_lt_of_cell? _ _ k0
        have r0 := cell_of_row _ w.heap.size 0 _ _ _ hres6
        have r1 := cell_of_row _ w.heap.size 1 _ _ _ hres6
        have rf : ∀ j, (w5.alloc (itmObj x)).frozen? ⟨w.heap.size, j, none⟩ = false := fun j => by simp [World.frozen?, hres6]
        have ngl : gl ≠ w.heap.size := fun e => by
          obtain ⟨cs, hc⟩ := ownsRow_type h6.words (k := gl) rfl
          rw [e, hres6] at hc; simp at hc
        have hneq1 : w.heap.size ≠ gl := Ne.symm ngl
        have hneq2 : w.heap.size ≠ rb := Ne.symm ap.1
        simp only [List.getElem?_toArray, List.getElem?_cons_zero, List.getElem?_cons_succ] at r0 r1
        simp only at l0 l1
        have HB6 : Hid _ := hB6
        clear hst HRES h5 hres5 hpol5 hrow5 hB5 hB6 h6 c2
        go_wp2_with fail
        generalize w5.alloc (itmObj x) = w6 at *
        go_region_held3 (fun w' => w'.cell? ⟨rb, 0, none⟩ = some (.slice (some ⟨gl, 0, none⟩) ts.length cl) ∧ w'.cell? ⟨rb, 1, none⟩ = some (.int .i64 s'.i) ∧ w'.cell? ⟨gl, s'.i * 3 + 2, none⟩ = some (.int .i64 (tokAt ts s'.i).pl))
          (first | go_keep | (simp [*, set_far]; done)) (fail)
        have hV : Hid (∀ w', Below w.heap.size w w' → ReadAns (verdictOf ts R).1 (verdictOf ts R).2 R.L R.xs w (.returned (.tuple #[.agg #[.slice none 0 0, .slice none 0 0], .int .i64 3, .int .i64 (tokAt ts s'.i).pl])) w') := fun w' hw => by
          have e : verdictOf ts R = (3, (tokAt ts s'.i).pl) := by rw [hRR.out, hpl.out]; rfl
          rw [e]; exact ans_err (n := 3) (by decide) hw
        go_wp2_with fail
        exact bodyPost_ret (v := .tuple #[.agg #[.slice none 0 0, .slice none 0 0], .int .i64 3, .int .i64 (tokAt ts s'.i).pl]) (by simp [results, Tryz.results33, go_sem, cell_set_same, cell_set_off, some_set, r0, r1]) rfl (hV.out _ ((HB6.out.setCell (p := ⟨w.heap.size, 0, none⟩) (Nat.le_refl _) _).setCell (p := ⟨w.heap.size, 1, none⟩) (Nat.le_refl _) _).drew)
end Go.Proofs.YtfkdailfcmnjlaaGreatDoor

namespace Go.Proofs.YtfkdailfcmnjlaaGreatDoor

theorem wordAt_ok {l : List UInt8} {a : Nat} {t : Tok} (hl : l.length ≤ 1000) (ha : a < l.length) (h : wordAt l a = some t) : t.k ≠ 101 ∧ TokOK t := by
  have hlen := wordAt_len ha h
  refine ⟨?_, by omega, ?_⟩
  · unfold wordAt at h
    rw [List.getElem?_eq_getElem ha] at h
    simp only at h
    repeat' split at h
    all_goals first
      | (simp at h; subst h; simp)
      | (simp at h)
  · intro hk
    unfold wordAt at h
    split at h
    · split at h
      · simp at h
      · rename_i hb
        simp at h; subst h
        refine ⟨cut_stop isD l a, ?_⟩
        unfold big at hb; simpa using hb
    · exfalso
      rw [List.getElem?_eq_getElem ha] at h
      simp only at h
      repeat' split at h
      all_goals first
        | (simp at h; subst h; simp at hk)
        | (simp at h)

theorem lex_ok (l : List UInt8) (hl : l.length ≤ 1000) (f : Nat) : ∀ (a : Nat) (ts : List Tok), a ≤ l.length → l.length - a < f → lex f l a = (ts, none) →
    0 < ts.length ∧ ts.length ≤ l.length - a + 1 ∧ (∀ t ∈ ts, TokOK t) ∧ (∀ i, i + 1 = ts.length → (ts.getD i noTok).k = 101) ∧ (∀ i, i + 1 < ts.length → (ts.getD i noTok).k ≠ 101) := by
  induction f with
  | zero => intro a ts _ h; omega
  | succ f ih =>
    intro a ts ha hf h
    have h1 := stop_ge isB l a
    have h2 := stop_le isB l a ha
    rw [lex] at h
    by_cases he : l.length ≤ stop isB l a
    · rw [if_pos he] at h; simp at h; subst h
      refine ⟨by simp, by simp, ?_, ?_, ?_⟩
      · intro t ht; simp at ht; subst ht; exact ⟨by simp, fun e => by simp at e⟩
      · intro i hi; simp at hi; subst hi; rfl
      · intro i hi; simp at hi
    · rw [if_neg he] at h
      cases hw : wordAt l (stop isB l a) with
      | none => rw [hw] at h; simp at h
      | some t =>
        rw [hw] at h
        simp only [Prod.mk.injEq] at h
        obtain ⟨rfl, hn⟩ := h
        have hlen := wordAt_len (by omega) hw
        have hok := wordAt_ok hl (by omega) hw
        have := ih (stop isB l a + t.text.length) (lex f l (stop isB l a + t.text.length)).1 (by omega) (by omega) (by rw [← hn])
        obtain ⟨r1, r2, r3, r4, r5⟩ := this
        refine ⟨by simp, by simp; omega, ?_, ?_, ?_⟩
        · intro u hu; simp at hu; rcases hu with rfl | hu
          · exact hok.2
          · exact r3 u hu
        · intro i hi
          cases i with
          | zero => simp only [List.length_cons] at hi; omega
          | succ i => simpa using r4 i (by simpa using hi)
        · intro i hi
          cases i with
          | zero => simpa using hok.1
          | succ i => simpa using r5 i (by simpa using hi)

theorem item_kept {F : Nat} {ts : List Tok} {i : Nat} {L : List Pt} {r : ItR} (h : itemP F ts i L = some r) (ok : r.ok = true) :
    i < r.i ∧ (∃ new, r.L = L ++ new) ∧ Inv L.length r.L ∧ L.length ≤ r.it.top ∧ r.it.top < r.L.length ∧ r.it.parts = r.L.length := by
  have tail : ∀ (j : Nat) (x : Itm), i < j → itemTail F ts j L x = some r → i < r.i ∧ (∃ new, r.L = L ++ new) ∧ Inv L.length r.L ∧ L.length ≤ r.it.top ∧ r.it.top < r.L.length ∧ r.it.parts = r.L.length := by
    intro j x hj hr
    obtain ⟨a, ha, hres⟩ := tail_split hr
    rcases hres with ⟨oka, hw, rfl⟩ | ⟨_, hr1, _⟩
    · have k := P_kept F 6 ts j L 0 L.length a ha oka (Nat.le_refl _) (fun k h1 h2 => by omega) (by omega) (by omega)
      have f1 := k.fwd
      exact ⟨by simp; omega, k.more, k.inv, k.top.1, k.top.2, rfl⟩
    · rw [hr1] at ok; simp at ok
  unfold itemP at h
  split at h
  · split at h
    · split at h
      · exact tail _ _ (by omega) h
      · simp [itFail] at h; subst h; simp at ok
    · simp [itFail] at h; subst h; simp at ok
  · split at h
    · split at h
      · exact tail _ _ (by omega) h
      · simp [itFail] at h; subst h; simp at ok
    · simp [itFail] at h; subst h; simp at ok

theorem item_total {F : Nat} {ts : List Tok} (i : Nat) (L : List Pt) (hF : 16 * ts.length + 8 ≤ F) : ∃ r, itemP F ts i L = some r := by
  have tail : ∀ (j : Nat) (x : Itm), ∃ r, itemTail F ts j L x = some r := by
    intro j x
    obtain ⟨a, ha⟩ := P_total F 6 ts j L 0 (by have : wt 6 = 8 := rfl; omega) (by omega)
    unfold itemTail; rw [ha]; simp only
    repeat' split
    all_goals exact ⟨_, rfl⟩
  unfold itemP
  repeat' split
  all_goals first
    | exact tail _ _
    | exact ⟨_, rfl⟩

theorem parse_total {F : Nat} {ts : List Tok} (hF : 16 * ts.length + 8 ≤ F) (hfin : ∀ i, i + 1 = ts.length → (ts.getD i noTok).k = 101) (g : Nat) : ∀ (i : Nat) (L : List Pt) (xs : List Itm), ts.length - i < g → ∃ R, parseAll F ts g i L xs = some R := by
  induction g with
  | zero => intro i L xs h; omega
  | succ g ih =>
    intro i L xs h
    rw [parseAll]
    by_cases hk : (tokAt ts i).k = 101
    · rw [if_pos hk]; exact ⟨_, rfl⟩
    · rw [if_neg hk]
      obtain ⟨r, hr⟩ := item_total i L hF
      rw [hr]; simp only
      by_cases ok : r.ok = true
      · rw [if_pos ok]
        have := (item_kept hr ok).1
        by_cases hlt : i < ts.length
        · exact ih r.i r.L _ (by omega)
        · exfalso
          have hn : tokAt ts i = noTok := by unfold tokAt; rw [List.getD_eq_getElem?_getD, List.getElem?_eq_none (by omega)]; rfl
          unfold itemP at hr
          rw [hn] at hr
          have e1 : isW noTok wLet = false := by decide
          have e2 : isW noTok wAllow = false := by decide
          have e3 : isW noTok wDeny = false := by decide
          rw [e1, e2, e3] at hr
          simp [itFail] at hr; subst hr; simp at ok
      · rw [if_neg ok]; exact ⟨_, rfl⟩

/-- A run of parts that belongs to one item. -/
def Seg (L : List Pt) (fr to : Nat) : Prop := ∀ k, fr ≤ k → k < to → (L.getD k noPt).subs.length ≤ 3 ∧ (∀ j ∈ (L.getD k noPt).subs, fr ≤ j ∧ j < k) ∧ Arity (L.getD k noPt).tok (L.getD k noPt).subs.length
def Segs (L : List Pt) : List Itm → Nat → Prop
  | [], fr => fr = L.length
  | x :: r, fr => fr ≤ x.top ∧ x.top < x.parts ∧ x.parts ≤ L.length ∧ Seg L fr x.parts ∧ Segs L r x.parts

theorem Segs.snoc {L : List Pt} {xs : List Itm} {fr : Nat} (h : Segs L xs fr) (new : List Pt) (x : Itm) (h1 : L.length ≤ x.top) (h2 : x.top < x.parts) (h3 : x.parts = (L ++ new).length) (h4 : Inv L.length (L ++ new)) : Segs (L ++ new) (xs ++ [x]) fr := by
  induction xs generalizing fr with
  | nil =>
    have : fr = L.length := h
    subst this
    exact ⟨h1, h2, by omega, fun k a b => h4 k a (by omega), h3⟩
  | cons y r ih =>
    obtain ⟨a, b, c, d, e⟩ := h
    refine ⟨a, b, by simp; omega, ?_, ih e⟩
    intro k hk1 hk2
    rw [getD_left (by omega)]
    exact d k hk1 hk2

theorem parse_segs {F : Nat} {ts : List Tok} (g : Nat) : ∀ (i : Nat) (L : List Pt) (xs : List Itm) (R : AllR), Segs L xs 0 → parseAll F ts g i L xs = some R → R.ok = true → Segs R.L R.xs 0 := by
  induction g with
  | zero => intro i L xs R _ h; rw [parseAll] at h; simp at h
  | succ g ih =>
    intro i L xs R hs h ok
    by_cases hk : (tokAt ts i).k = 101
    · have := parse_end h hk; subst this; exact hs
    · rw [parseAll, if_neg hk] at h
      cases hr : itemP F ts i L with
      | none => rw [hr] at h; simp at h
      | some r =>
        rw [hr] at h
        simp only at h
        by_cases okr : r.ok = true
        · rw [if_pos okr] at h
          obtain ⟨_, ⟨new, e⟩, k2, k3, k4, k5⟩ := item_kept hr okr
          rw [e] at k2 k4 k5 h
          exact ih r.i (L ++ new) (xs ++ [r.it]) R (hs.snoc new r.it k3 (by omega) k5 k2) h ok
        · rw [if_neg okr] at h; simp at h; subst h; simp at ok

theorem Segs.all {L : List Pt} {xs : List Itm} {fr : Nat} (h : Segs L xs fr) : fr ≤ L.length ∧ (∀ k, fr ≤ k → k < L.length → (L.getD k noPt).subs.length ≤ 3 ∧ ∀ j ∈ (L.getD k noPt).subs, j < k) ∧ (∀ x ∈ xs, x.top < L.length ∧ x.parts ≤ L.length) := by
  induction xs generalizing fr with
  | nil =>
    have : fr = L.length := h
    subst this
    exact ⟨Nat.le_refl _, fun k a b => by omega, by simp⟩
  | cons y r ih =>
    obtain ⟨a, b, c, d, e⟩ := h
    obtain ⟨i1, i2, i3⟩ := ih e
    refine ⟨by omega, fun k hk1 hk2 => ?_, ?_⟩
    · by_cases hk : k < y.parts
      · have := d k hk1 hk
        exact ⟨this.1, fun j hj => (this.2.1 j hj).2⟩
      · exact i2 k (by omega) hk2
    · intro x hx; simp at hx; rcases hx with rfl | hx
      · omega
      · exact i3 x hx

theorem wrong_none {xs : List Itm} {L : List Pt} {i : Nat} (c : Nat) : ∀ (k : Nat) (o : Option Nat), wrongAt xs L i c k o = none → o = none ∧ ∀ q, k ≤ q → q < k + c → (L.getD q noPt).tok.k = 111 → 0 ≤ letIx xs (L.getD q noPt).tok.text i := by
  induction c with
  | zero => intro k o h; exact ⟨h, fun q h1 h2 => by omega⟩
  | succ c ih =>
    intro k o h
    rw [wrongAt] at h
    obtain ⟨h1, h2⟩ := ih _ _ h
    unfold wrongStep at h1
    by_cases hc : (L.getD k noPt).tok.k = 111 ∧ letIx xs (L.getD k noPt).tok.text i < 0
    · rw [if_pos hc] at h1
      exfalso
      cases o with
      | none => simp [better] at h1
      | some p =>
        have hbt : ∀ m, better m (some p) ≠ none := fun m => by simp only [better]; split <;> simp
        exact hbt _ h1
    · rw [if_neg hc] at h1
      refine ⟨h1, fun q hq1 hq2 hq3 => ?_⟩
      by_cases e : q = k
      · subst e
        by_cases hl : letIx xs (L.getD q noPt).tok.text i < 0
        · exact absurd ⟨hq3, hl⟩ hc
        · omega
      · exact h2 q (by omega) (by omega) hq3

theorem names_fine {xs : List Itm} {L : List Pt} (r : List Itm) : ∀ (fr i : Nat), Segs L r fr → namesAt xs L r fr i = none → ∀ j (hj : j < r.length), ∃ Good : Nat → Prop, Fine xs (i + j) L Good ∧ Good r[j].top := by
  induction r with
  | nil => intro fr i _ _ j hj; simp at hj
  | cons x r ih =>
    intro fr i hs hn j hj
    obtain ⟨a, b, c, d, e⟩ := hs
    rw [namesAt] at hn
    by_cases hc : x.name ≠ [] ∧ 0 ≤ letIx xs x.name i
    · rw [if_pos hc] at hn; simp at hn
    · rw [if_neg hc] at hn
      have hw : wrongAt xs L i (x.parts - fr) fr none = none := by
        cases hh : wrongAt xs L i (x.parts - fr) fr none with
        | none => rfl
        | some p => rw [hh] at hn; simp at hn
      rw [hw] at hn
      simp at hn
      cases j with
      | zero =>
        refine ⟨fun k => fr ≤ k ∧ k < x.parts, ⟨?_, ?_, ?_, ?_⟩, a, b⟩
        · intro k hk q hq
          have := (d k hk.1 hk.2).2.1 q hq
          omega
        · intro k hk h1
          exact (wrong_none _ _ _ hw).2 k hk.1 (by omega) h1
        · intro k hk h1 h2 h3; exact (d k hk.1 hk.2).2.2.1 h1 h2 h3
        · intro k hk h1 h2 h3; exact (d k hk.1 hk.2).2.2.2 h1 h2 h3
      | succ j =>
        have := ih x.parts (i + 1) e hn j (by simpa using hj)
        rw [show i + (j + 1) = i + 1 + j from by omega]
        exact this

theorem facts_of {F g : Nat} {ts : List Tok} {R : AllR} (h : parseAll F ts g 0 [] [] = some R) (ok : R.ok = true) : Facts R.L R.xs := by
  have hs := parse_segs g 0 [] [] R rfl h ok
  obtain ⟨_, h2, h3⟩ := hs.all
  refine ⟨fun k hk => h2 k (Nat.zero_le _) hk, fun x hx => (h3 x hx).1, fun x hx => (h3 x hx).2, fun hn j hj => ?_⟩
  have := names_fine R.xs 0 0 hs hn j hj
  rw [Nat.zero_add] at this
  exact this
end Go.Proofs.YtfkdailfcmnjlaaGreatDoor

namespace Go.Proofs.YtfkdailfcmnjlaaGreatDoor
open Go Go.RowKit
set_option maxRecDepth 100000

/-- What all items of words are. -/
def allOf (ts : List Tok) : AllR := (parseAll (16 * ts.length + 8) ts (ts.length + 1) 0 [] []).getD ⟨false, 0, [], []⟩
/-- What reading a text answers: the error and the place; the parts; the items. -/
def readOf (l : List UInt8) : (Nat × Nat) × List Pt × List Itm :=
  if 1000 < l.length then ((1, 0), [], [])
  else match (lex (l.length + 1) l 0).2 with
    | some p => ((2, p), [], [])
    | none => (verdictOf (lex (l.length + 1) l 0).1 (allOf (lex (l.length + 1) l 0).1), (allOf (lex (l.length + 1) l 0).1).L, (allOf (lex (l.length + 1) l 0).1).xs)

theorem read_any (l : List UInt8) (w : World) (hm : l.length ≤ maxLen) : Calls Tryz.prog 33 #[S l] w (ReadAns (readOf l).1.1 (readOf l).1.2 (readOf l).2.1 (readOf l).2.2 w) := by
  unfold readOf
  by_cases h1 : 1000 < l.length
  · rw [if_pos h1]; exact read_long l w h1 hm _ _
  · rw [if_neg h1]
    cases hx : (lex (l.length + 1) l 0).2 with
    | some p => exact read_word l w (by omega) (lex (l.length + 1) l 0).1 p (by rw [← hx]) _ _
    | none =>
      have hlex : lex (l.length + 1) l 0 = ((lex (l.length + 1) l 0).1, none) := by rw [← hx]
      obtain ⟨r1, r2, r3, r4, r5⟩ := lex_ok l (by omega) (l.length + 1) 0 _ (Nat.zero_le _) (by omega) hlex
      generalize (lex (l.length + 1) l 0).1 = ts at *
      obtain ⟨R, hR⟩ := parse_total (F := 16 * ts.length + 8) (Nat.le_refl _) r4 (ts.length + 1) 0 [] [] (by omega)
      have e : allOf ts = R := by unfold allOf; rw [hR]; rfl
      rw [e]
      exact read_items l w (by omega) ts hlex r3 ⟨r1, by omega⟩ r4 _ _ R hR (facts_of hR) (fun i L r hr ok => (item_kept hr ok).1)

set_option maxHeartbeats 1000000 in
theorem check_ref (l : List UInt8) (w : World) (hm : l.length ≤ maxLen) : Calls Tryz.prog 12 #[S l] w fun e w' => e = .returned (.tuple #[.int .i64 (readOf l).1.1, .int .i64 (readOf l).1.2]) ∧ Below w.heap.size w w' := by
  go_enter Tryz.func12, Tryz.ntmps12
  go_wp2_with fail
  refine (read_any l _ hm).mono ?_
  rintro e w1 ⟨hb, iv, pv, rfl, ⟨a, b, c, rfl⟩, ⟨a', b', c', rfl⟩, _, _⟩
  generalize hn : (readOf l).1.1 = n at *
  generalize hk : (readOf l).1.2 = k at *
  have HN : Hid _ := hn
  have HK : Hid _ := hk
  clear hn hk
  go_wp2_with fail
  go_ret2
  refine ⟨?_, hb.alloc hb.size _⟩
  rw [HN.out, HK.out]; rfl
end Go.Proofs.YtfkdailfcmnjlaaGreatDoor

namespace Go.Proofs.YtfkdailfcmnjlaaGreatDoor
open Go Go.RowKit
set_option maxRecDepth 100000
attribute [local go_sem ↓] Go.wp_at_zero Go.wp_at_succ

/-- Within 64 bits. -/
def In64 (a : Int) : Prop := -9223372036854775808 ≤ a ∧ a ≤ 9223372036854775807
/-- A number brought within 64 bits. -/
def clampI (a : Int) : Int := if 9223372036854775807 < a then 9223372036854775807 else if a < -9223372036854775808 then -9223372036854775808 else a
theorem clamp_in (a : Int) : In64 (clampI a) := by unfold clampI In64; split; omega; split <;> omega
def truthI (b : Bool) : Int := if b then 1 else 0
def knownI (n : Int) : Int := if n < 0 ∨ 4 < n then 0 else n
/-- What a sign makes of two. -/
def twoI (s : List UInt8) (a b : Int) : Int :=
  if s = [43] then clampI (a + b) else if s = [45] then clampI (a - b) else if s = [61] then truthI (a == b) else if s = [60] then truthI (decide (a < b)) else if s = [60, 61] then truthI (decide (a ≤ b))
  else if s = [111, 114] then truthI (a == 1 || b == 1) else truthI (a == 1 && b == 1)
theorem wrap64 {x : Int} (h : In64 x) : IntKind.i64.wrap x = x := by
  unfold In64 at h
  simp [IntKind.wrap, IntKind.signed, IntKind.bits]
  omega

set_option maxHeartbeats 2000000 in
theorem plus_any {a b : Int} (ha : In64 a) (hb : In64 b) (w : World) : Calls Tryz.prog 97 #[.int .i64 a, .int .i64 b] w fun e w' => e = .returned (.int .i64 (clampI (a + b))) ∧ w' = w := by
  unfold In64 at ha hb
  have w1 : 0 < b → IntKind.i64.wrap (9223372036854775807 - b) = 9223372036854775807 - b := fun h => wrap64 (by unfold In64; omega)
  have w2 : b < 0 → IntKind.i64.wrap (-9223372036854775808 - b) = -9223372036854775808 - b := fun h => wrap64 (by unfold In64; omega)
  by_cases h1 : 0 < b
  · have w1 := w1 h1
    have hb0 : ¬ b < 0 := by omega
    clear w2
    by_cases h2 : 9223372036854775807 - b < a
    · have HC : Hid (clampI (a + b) = 9223372036854775807) := by show _ = _; unfold clampI; rw [if_pos (by omega)]
      go_enter Tryz.func97, Tryz.ntmps97
      go_wp2_with fail
      go_ret
      exact ⟨by rw [HC.out]; rfl, rfl⟩
    · have w3 : IntKind.i64.wrap (a + b) = a + b := wrap64 (by unfold In64; omega)
      have HC : Hid (clampI (a + b) = a + b) := by show _ = _; unfold clampI; rw [if_neg (by omega), if_neg (by omega)]
      go_enter Tryz.func97, Tryz.ntmps97
      go_wp2_with fail
      go_ret
      exact ⟨by rw [HC.out]; rfl, rfl⟩
  · clear w1
    by_cases h0 : b < 0
    · have w2 := w2 h0
      by_cases h2 : a < -9223372036854775808 - b
      · have HC : Hid (clampI (a + b) = -9223372036854775808) := by show _ = _; unfold clampI; rw [if_neg (by omega), if_pos (by omega)]
        go_enter Tryz.func97, Tryz.ntmps97
        go_wp2_with fail
        go_ret
        exact ⟨by rw [HC.out]; rfl, rfl⟩
      · have w3 : IntKind.i64.wrap (a + b) = a + b := wrap64 (by unfold In64; omega)
        have HC : Hid (clampI (a + b) = a + b) := by show _ = _; unfold clampI; rw [if_neg (by omega), if_neg (by omega)]
        go_enter Tryz.func97, Tryz.ntmps97
        go_wp2_with fail
        go_ret
        exact ⟨by rw [HC.out]; rfl, rfl⟩
    · have w3 : IntKind.i64.wrap (a + b) = a + b := wrap64 (by unfold In64; omega)
      have HC : Hid (clampI (a + b) = a + b) := by show _ = _; unfold clampI; rw [if_neg (by omega), if_neg (by omega)]
      clear w2
      go_enter Tryz.func97, Tryz.ntmps97
      go_wp2_with fail
      go_ret
      exact ⟨by rw [HC.out]; rfl, rfl⟩

set_option maxHeartbeats 2000000 in
theorem minus_any {a b : Int} (ha : In64 a) (hb : In64 b) (w : World) : Calls Tryz.prog 98 #[.int .i64 a, .int .i64 b] w fun e w' => e = .returned (.int .i64 (clampI (a - b))) ∧ w' = w := by
  unfold In64 at ha hb
  have w1 : b < 0 → IntKind.i64.wrap (9223372036854775807 + b) = 9223372036854775807 + b := fun h => wrap64 (by unfold In64; omega)
  have w2 : 0 < b → IntKind.i64.wrap (-9223372036854775808 + b) = -9223372036854775808 + b := fun h => wrap64 (by unfold In64; omega)
  by_cases h1 : b < 0
  · have w1 := w1 h1
    have hb0 : ¬ 0 < b := by omega
    clear w2
    by_cases h2 : 9223372036854775807 + b < a
    · have _h := 0
      have HC : Hid (clampI (a - b) = 9223372036854775807) := by show _ = _; unfold clampI; rw [if_pos (by omega)]
      go_enter Tryz.func98, Tryz.ntmps98
      go_wp2_with fail
      go_ret
      exact ⟨by rw [HC.out]; rfl, rfl⟩
    · have _h := 0
      have w3 : IntKind.i64.wrap (a - b) = a - b := wrap64 (by unfold In64; omega)
      have HC : Hid (clampI (a - b) = a - b) := by show _ = _; unfold clampI; rw [if_neg (by omega), if_neg (by omega)]
      go_enter Tryz.func98, Tryz.ntmps98
      go_wp2_with fail
      go_ret
      exact ⟨by rw [HC.out]; rfl, rfl⟩
  · clear w1
    by_cases h0 : 0 < b
    · have w2 := w2 h0
      by_cases h2 : a < -9223372036854775808 + b
      · have _h := 0
        have HC : Hid (clampI (a - b) = -9223372036854775808) := by show _ = _; unfold clampI; rw [if_neg (by omega), if_pos (by omega)]
        go_enter Tryz.func98, Tryz.ntmps98
        go_wp2_with fail
        go_ret
        exact ⟨by rw [HC.out]; rfl, rfl⟩
      · have _h := 0
        have w3 : IntKind.i64.wrap (a - b) = a - b := wrap64 (by unfold In64; omega)
        have HC : Hid (clampI (a - b) = a - b) := by show _ = _; unfold clampI; rw [if_neg (by omega), if_neg (by omega)]
        go_enter Tryz.func98, Tryz.ntmps98
        go_wp2_with fail
        go_ret
        exact ⟨by rw [HC.out]; rfl, rfl⟩
    · clear w2
      have w3 : IntKind.i64.wrap (a - b) = a - b := wrap64 (by unfold In64; omega)
      have HC : Hid (clampI (a - b) = a - b) := by show _ = _; unfold clampI; rw [if_neg (by omega), if_neg (by omega)]
      go_enter Tryz.func98, Tryz.ntmps98
      go_wp2_with fail
      go_ret
      exact ⟨by rw [HC.out]; rfl, rfl⟩

set_option maxHeartbeats 1000000 in
theorem truth_any (b : Bool) (w : World) : Calls Tryz.prog 86 #[.bool b] w fun e w' => e = .returned (.int .i64 (truthI b)) ∧ w' = w := by
  cases b
  all_goals
    go_enter Tryz.func86, Tryz.ntmps86
    go_wp2_with fail
    go_ret
    exact ⟨rfl, rfl⟩
set_option maxHeartbeats 1000000 in
theorem known_any {n : Int} (hn : In64 n) (w : World) : Calls Tryz.prog 85 #[.int .i64 n] w fun e w' => e = .returned (.int .i64 (knownI n)) ∧ w' = w := by
  unfold In64 at hn
  by_cases h0 : n < 0
  · have HC : Hid (knownI n = 0) := by show _ = _; unfold knownI; rw [if_pos (.inl h0)]
    go_enter Tryz.func85, Tryz.ntmps85
    go_wp2_with fail
    go_ret
    exact ⟨by rw [HC.out]; rfl, rfl⟩
  · by_cases h4 : 4 < n
    · have HC : Hid (knownI n = 0) := by show _ = _; unfold knownI; rw [if_pos (.inr h4)]
      go_enter Tryz.func85, Tryz.ntmps85
      go_wp2_with fail
      go_ret
      exact ⟨by rw [HC.out]; rfl, rfl⟩
    · have HC : Hid (knownI n = n) := by show _ = _; unfold knownI; rw [if_neg (by omega)]
      go_enter Tryz.func85, Tryz.ntmps85
      go_wp2_with fail
      go_ret
      exact ⟨by rw [HC.out]; rfl, rfl⟩

set_option maxHeartbeats 4000000 in
theorem two_any (s : List UInt8) {a b : Int} (ha : In64 a) (hb : In64 b) (w : World) : Calls Tryz.prog 51 #[S s, .int .i64 a, .int .i64 b] w fun e w' => e = .returned (.int .i64 (twoI s a b)) ∧ w' = w := by
  cases h0 : (s == [43]) with
  | true =>
    have HC : Hid (twoI s a b = clampI (a + b)) := by show _ = _; unfold twoI; rw [if_pos (by simpa using h0)]
    have W1 := plus_any ha hb w
    generalize clampI (a + b) = r at *
    go_enter Tryz.func51, Tryz.ntmps51
    go_wp2_with fail
    refine W1.mono ?_
    rintro e w1 ⟨rfl, rfl⟩
    clear W1
    go_wp2_with fail
    go_ret
    exact ⟨by rw [HC.out]; rfl, rfl⟩
  | false =>
  have n0 := h0
  cases h1 : (s == [45]) with
  | true =>
    have HC : Hid (twoI s a b = clampI (a - b)) := by show _ = _; unfold twoI; rw [if_neg (by simpa using n0), if_pos (by simpa using h1)]
    have W1 := minus_any ha hb w
    generalize clampI (a - b) = r at *
    go_enter Tryz.func51, Tryz.ntmps51
    go_wp2_with fail
    refine W1.mono ?_
    rintro e w1 ⟨rfl, rfl⟩
    clear W1
    go_wp2_with fail
    go_ret
    exact ⟨by rw [HC.out]; rfl, rfl⟩
  | false =>
  have n1 := h1
  cases h2 : (s == [61]) with
  | true =>
    have HC : Hid (twoI s a b = truthI (a == b)) := by show _ = _; unfold twoI; rw [if_neg (by simpa using n0), if_neg (by simpa using n1), if_pos (by simpa using h2)]
    have W1 := fun w => truth_any (a == b) w
    generalize truthI (a == b) = r at *
    go_enter Tryz.func51, Tryz.ntmps51
    go_wp2_with fail
    refine (W1 _).mono ?_
    rintro e w1 ⟨rfl, rfl⟩
    clear W1
    go_wp2_with fail
    go_ret
    exact ⟨by rw [HC.out]; rfl, rfl⟩
  | false =>
  have n2 := h2
  cases h3 : (s == [60]) with
  | true =>
    have HC : Hid (twoI s a b = truthI (decide (a < b))) := by show _ = _; unfold twoI; rw [if_neg (by simpa using n0), if_neg (by simpa using n1), if_neg (by simpa using n2), if_pos (by simpa using h3)]
    have W1 := fun w => truth_any (decide (a < b)) w
    generalize truthI (decide (a < b)) = r at *
    go_enter Tryz.func51, Tryz.ntmps51
    go_wp2_with fail
    refine (W1 _).mono ?_
    rintro e w1 ⟨rfl, rfl⟩
    clear W1
    go_wp2_with fail
    go_ret
    exact ⟨by rw [HC.out]; rfl, rfl⟩
  | false =>
  have n3 := h3
  cases h4 : (s == [60, 61]) with
  | true =>
    have HC : Hid (twoI s a b = truthI (decide (a ≤ b))) := by show _ = _; unfold twoI; rw [if_neg (by simpa using n0), if_neg (by simpa using n1), if_neg (by simpa using n2), if_neg (by simpa using n3), if_pos (by simpa using h4)]
    have W1 := fun w => truth_any (decide (a ≤ b)) w
    generalize truthI (decide (a ≤ b)) = r at *
    go_enter Tryz.func51, Tryz.ntmps51
    go_wp2_with fail
    refine (W1 _).mono ?_
    rintro e w1 ⟨rfl, rfl⟩
    clear W1
    go_wp2_with fail
    go_ret
    exact ⟨by rw [HC.out]; rfl, rfl⟩
  | false =>
  have n4 := h4
  cases h5 : (s == [111, 114]) with
  | true =>
    have HC : Hid (twoI s a b = truthI (a == 1 || b == 1)) := by show _ = _; unfold twoI; rw [if_neg (by simpa using n0), if_neg (by simpa using n1), if_neg (by simpa using n2), if_neg (by simpa using n3), if_neg (by simpa using n4), if_pos (by simpa using h5)]
    cases hx : (a == 1)
    all_goals
      cases hy : (b == 1)
    all_goals
      rw [hx, hy] at HC
      have W1 := fun w b => truth_any b w
      go_enter Tryz.func51, Tryz.ntmps51
      go_wp2_with fail
      refine (W1 _ _).mono ?_
      rintro e w1 ⟨rfl, rfl⟩
      clear W1
      go_wp2_with fail
      go_ret
      exact ⟨by rw [HC.out]; rfl, rfl⟩
  | false =>
  have n5 := h5
  have HC : Hid (twoI s a b = truthI (a == 1 && b == 1)) := by show _ = _; unfold twoI; rw [if_neg (by simpa using n0), if_neg (by simpa using n1), if_neg (by simpa using n2), if_neg (by simpa using n3), if_neg (by simpa using n4), if_neg (by simpa using n5)]
  cases hx : (a == 1)
  all_goals
    cases hy : (b == 1)
  all_goals
    rw [hx, hy] at HC
    have W1 := fun w b => truth_any b w
    go_enter Tryz.func51, Tryz.ntmps51
    go_wp2_with fail
    refine (W1 _ _).mono ?_
    rintro e w1 ⟨rfl, rfl⟩
    clear W1
    go_wp2_with fail
    go_ret
    exact ⟨by rw [HC.out]; rfl, rfl⟩
end Go.Proofs.YtfkdailfcmnjlaaGreatDoor
