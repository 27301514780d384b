/-
  The program's reader: an item. The program's reader: an item reads as the plain reader does. The program's reader: all items. The program's types: words, and what stands over types. The program's types: what stands over types.
-/
import Derived.Test.YtfkdailfcmnjlaaGreatDoorTells01
import Derived.Test.YtfkdailfcmnjlaaGreatDoorTells02
import Derived.Test.YtfkdailfcmnjlaaGreatDoorTells04
import Derived.Test.YtfkdailfcmnjlaaGreatDoorTells05
import Derived.Test.YtfkdailfcmnjlaaGreatDoorTells06
import Derived.Test.YtfkdailfcmnjlaaGreatDoorTells07
import Derived.Test.YtfkdailfcmnjlaaGreatDoorTells08
import Derived.Test.YtfkdailfcmnjlaaGreatDoorTells10
import Derived.Test.YtfkdailfcmnjlaaGreatDoorTells11
import Derived.Test.YtfkdailfcmnjlaaGreatDoorTells12
import Derived.Test.YtfkdailfcmnjlaaGreatDoorTells13
import Derived.Test.YtfkdailfcmnjlaaGreatDoorTells14
import Derived.Test.YtfkdailfcmnjlaaGreatDoorLays
import Derived.WalkKit
import Derived.Deep.QuietTactic
import Derived.BigQuiet
import Derived.WalkSpells
import GoSem.Op.String
import Derived.Deep.AppendLies
import Derived.Deep.RegionHeld3
import Derived.Deep.DrawnRows
import Derived.Deep.RegionHeldLaw
import Derived.Deep.RegionLaw
import Derived.Lib.ParseIntBCases
set_option linter.unusedVariables false
set_option linter.unusedSimpArgs false
namespace Go.Proofs.YtfkdailfcmnjlaaGreatDoor
open Go Go.RowKit
set_option maxRecDepth 100000
attribute [local go_sem ↓] Go.wp_at_zero Go.wp_at_succ

/-- No word. -/
def zTok : Tok := ⟨101, [], 0⟩
/-- The word that 'want' gives. -/
def wantT (ts : List Tok) (ok : Bool) (j : Nat) (ks : List Nat) : Tok := if ok && sees ts ks j then tokAt ts j else zTok
theorem wantW_tok (ts : List Tok) (ok : Bool) (j : Nat) (ks : List Nat) : wantW ts ok j ks = .agg #[.int .i64 (kindOf (wantT ts ok j ks)), .int .i64 (wantT ts ok j ks).pl, .int .i64 (nmOf (wantT ts ok j ks)), S (ownOf (wantT ts ok j ks))] := by
  unfold wantW wantT
  split
  · rfl
  · rfl
/-- An item's value. -/
def itV (t u : Tok) (b : Nat) : Value := .agg #[.int .i64 (kindOf t), .int .i64 t.pl, .int .i64 (nmOf t), S (ownOf t), .int .i64 (kindOf u), .int .i64 u.pl, .int .i64 (nmOf u), S (ownOf u), .int .i64 0, .pointer (some ⟨b, 0, none⟩)]

/-- An item's value, with its number. -/
def itW (t u : Tok) (n : Int) (b : Nat) : Value := .agg #[.int .i64 (kindOf t), .int .i64 t.pl, .int .i64 (nmOf t), S (ownOf t), .int .i64 (kindOf u), .int .i64 u.pl, .int .i64 (nmOf u), S (ownOf u), .int .i64 n, .pointer (some ⟨b, 0, none⟩)]
/-- An item's block, with its number. -/
def itObjW (t u : Tok) (n : Int) (v : Value) : Obj := .cells #[.int .i64 (kindOf t), .int .i64 t.pl, .int .i64 (nmOf t), S (ownOf t), .int .i64 (kindOf u), .int .i64 u.pl, .int .i64 (nmOf u), S (ownOf u), .int .i64 n, v] 163 (0, 0)

/-- An item's block. -/
def itObj (t u : Tok) (v : Value) : Obj := .cells #[.int .i64 (kindOf t), .int .i64 t.pl, .int .i64 (nmOf t), S (ownOf t), .int .i64 (kindOf u), .int .i64 u.pl, .int .i64 (nmOf u), S (ownOf u), .int .i64 0, v] 163 (0, 0)
theorem it_cells {w : World} {b : Nat} {x0 x1 x2 x3 x4 x5 x6 x7 x8 x9 : Value} (h : w.heap[b]? = some (.cells #[x0, x1, x2, x3, x4, x5, x6, x7, x8, x9] 163 (0, 0))) : (w.cell? ⟨b, 0, none⟩ = some x0 ∧ w.cell? ⟨b, 1, none⟩ = some x1 ∧ w.cell? ⟨b, 2, none⟩ = some x2 ∧ w.cell? ⟨b, 3, none⟩ = some x3 ∧ w.cell? ⟨b, 4, none⟩ = some x4 ∧ w.cell? ⟨b, 5, none⟩ = some x5 ∧ w.cell? ⟨b, 6, none⟩ = some x6 ∧ w.cell? ⟨b, 7, none⟩ = some x7 ∧ w.cell? ⟨b, 8, none⟩ = some x8 ∧ w.cell? ⟨b, 9, none⟩ = some x9) ∧ ∀ j, w.frozen? ⟨b, j, none⟩ = false := by
  have hc := fun j => cell_of_row w b j _ _ _ h
  exact ⟨⟨hc 0, hc 1, hc 2, hc 3, hc 4, hc 5, hc 6, hc 7, hc 8, hc 9⟩, fun j => by simp [World.frozen?, h]⟩
/-- The tree stays where a block of items is written. -/
theorem CondAt.item {L : List Pt} {lt : Nat} {w : World} {i b : Nat} (h : CondAt L lt w i b) {x : Nat} {cs : Array Value} (hx : w.heap[x]? = some (.cells cs 163 (0, 0))) (j : Nat) (v : Value) : CondAt L lt (w.setCell ⟨x, j, none⟩ v) i b :=
  h.keep fun k cs' ty hk ht => Below.heap_setCell _ _ _ _ (by
    simp only
    intro e
    rw [e, hx] at hk
    simp only [Option.some.injEq, Obj.cells.injEq] at hk
    rw [← hk.2.1] at ht
    exact absurd ht (by decide))
theorem item_set {w : World} {x : Nat} {cs : Array Value} (hx : w.heap[x]? = some (.cells cs 163 (0, 0))) (j : Nat) (v : Value) : (w.setCell ⟨x, j, none⟩ v).heap[x]? = some (.cells (cs.setIfInBounds j v) 163 (0, 0)) := by
  rw [heap_setCell_same w x j _ _ v hx]
theorem pitem_far {w : World} {x y : Nat} (h : y ≠ x) (j : Nat) (v : Value) : (w.setCell ⟨x, j, none⟩ v).heap[y]? = w.heap[y]? := Below.heap_setCell _ _ _ _ (by simpa using h)

set_option maxHeartbeats 4000000 in
theorem pitem_let {f rb gl cl : Nat} {ts : List Tok} {s : Q} {w : World} (hf : FormOK f 152 6 rb gl cl ts) (h : RR rb gl cl ts s w) (hgood : s.bad = false) (hk : kindOf (tokAt ts s.i) = 11) {ok2 ok3 : Bool} {j2 j3 : Nat} (e2 : ok2 = sees ts [2] (s.i + 1)) (e3 : j2 = nextI ok2 (s.i + 1)) (e4 : ok3 = (ok2 && sees ts [8] j2)) (e5 : j3 = nextI ok3 j2) {L : List Pt} {a : Rd}
    (hP : ok3 = true → P f 6 ts j3 L 0 = some a) {ok4 ok5 : Bool} {j4 j5 : Nat} (e6 : j4 = if ok3 then a.i else j3) (e7 : ok4 = (ok3 && a.ok)) (e8 : ok5 = (ok4 && sees ts [5] j4)) (e9 : j5 = nextI ok5 j4) :
    Calls Tryz.prog 104 #[.pointer (some ⟨rb, 0, none⟩)] w fun e w' => ∃ b, e = .returned (itV (tokAt ts s.i) (wantT ts true (s.i + 1) [2]) b) ∧ PF rb w w' ∧ RR rb gl cl ts (Stp ts s ok5 j5) w' ∧ (ok4 = true → CondAt a.L rb w' a.top b) := by
  have hs0 : sees ts [11, 12, 13] s.i = true := by unfold sees; rw [hk]; rfl
  have h0 : RR rb gl cl ts (Stp ts s true s.i) (w.alloc (itObj zTok zTok (.pointer none))) := h.alloc _
  have hr0 : (w.alloc (itObj zTok zTok (.pointer none))).heap[w.heap.size]? = some (itObj zTok zTok (.pointer none)) := heap_alloc_new w _
  have F0 : PF rb w (w.alloc (itObj zTok zTok (.pointer none))) := (PF.refl rb w).alloc _
  have hrl := h.rlt
  have hgl := h.glt
  have W1 := want_stp h0 [11, 12, 13] (by decide) (by decide)
  rw [wantW_tok] at W1
  have et : wantT ts true s.i [11, 12, 13] = tokAt ts s.i := by unfold wantT; rw [hs0]; rfl
  rw [et, hs0] at W1
  simp only [Bool.and_self, show nextI true s.i = s.i + 1 from rfl] at W1
  have HE2 : Hid _ := e2
  have HE3 : Hid _ := e3
  have HE4 : Hid _ := e4
  have HE5 : Hid _ := e5
  have HP : Hid _ := hP
  have HR0 : Hid _ := hr0
  have HG : Hid _ := hgood
  have HF0 : Hid _ := F0
  have HIT : Hid (∀ t u v, itObj t u v = .cells #[.int .i64 (kindOf t), .int .i64 t.pl, .int .i64 (nmOf t), S (ownOf t), .int .i64 (kindOf u), .int .i64 u.pl, .int .i64 (nmOf u), S (ownOf u), .int .i64 0, v] 163 (0, 0)) := fun _ _ _ => rfl
  have HE6 : Hid _ := e6
  have HE7 : Hid _ := e7
  have HE8 : Hid _ := e8
  have HE9 : Hid _ := e9
  clear e6 e7 e8 e9 e2 e3 e4 e5 hP hr0 hgood h h0 hs0 F0
  have hsz : (w.alloc (itObj zTok zTok (.pointer none))).heap.size = w.heap.size + 1 := by simp
  have HV : Hid (∀ b, itV (tokAt ts s.i) (wantT ts true (s.i + 1) [2]) b = .agg #[.int .i64 (kindOf (tokAt ts s.i)), .int .i64 (tokAt ts s.i).pl, .int .i64 (nmOf (tokAt ts s.i)), S (ownOf (tokAt ts s.i)), .int .i64 (kindOf (wantT ts true (s.i + 1) [2])), .int .i64 (wantT ts true (s.i + 1) [2]).pl, .int .i64 (nmOf (wantT ts true (s.i + 1) [2])), S (ownOf (wantT ts true (s.i + 1) [2])), .int .i64 0, .pointer (some ⟨b, 0, none⟩)]) := fun _ => rfl
  generalize itV (tokAt ts s.i) (wantT ts true (s.i + 1) [2]) = iv at HV ⊢
  go_enter Tryz.func104, Tryz.ntmps104
  go_wp2_with fail
  rw [hsz] at W1
  refine W1.mono ?_
  rintro e w1 ⟨rfl, h1, F1⟩
  clear W1
  have hx1 : w1.heap[w.heap.size]? = some (itObj zTok zTok (.pointer none)) := by rw [F1.block _ (by rw [hsz]; omega) (by omega)]; exact HR0.out
  have hl1 := lt_of_get hx1
  generalize htk : tokAt ts s.i = t0 at *
  have h2 := h1.alloc (itObj t0 zTok (.pointer none))
  have F2 := (HF0.out.trans F1).alloc (itObj t0 zTok (.pointer none))
  have hi2 : (w1.alloc (itObj t0 zTok (.pointer none))).heap[w1.heap.size]? = some (itObj t0 zTok (.pointer none)) := heap_alloc_new w1 _
  have hx2 : (w1.alloc (itObj t0 zTok (.pointer none))).heap[w.heap.size]? = some (itObj zTok zTok (.pointer none)) := by rw [Below.heap_alloc _ _ _ hl1]; exact hx1
  have e1 : w1.heap.size ≠ rb := by have := h1.rlt; omega
  have e2 : w1.heap.size ≠ gl := by have := h1.glt; omega
  have e3 : w.heap.size ≠ w1.heap.size := by omega
  have e4 : w.heap.size ≠ rb := by omega
  have e5 : w.heap.size ≠ gl := by omega
  have hge : w.heap.size ≤ w1.heap.size := by omega
  clear h1 F1 hx1 HR0 HF0
  have W2 := want_stp h2 [2] (by decide) (by decide)
  rw [wantW_tok] at W2
  have hsz2 : (w1.alloc (itObj t0 zTok (.pointer none))).heap.size = w1.heap.size + 1 := by simp
  rw [hsz2] at W2
  simp only [HIT.out, hk] at h2 F2 hsz2 hi2 hx2 W2
  rw [Bool.true_and, ← HE2.out, ← HE3.out] at W2
  go_wp2_with fail
  refine W2.mono ?_
  clear W2 h2
  rintro e w3 ⟨rfl, h3, F3⟩
  generalize htw : wantT ts true (s.i + 1) [2] = u0 at HV ⊢
  clear htw
  have hi3 : w3.heap[w1.heap.size]? = _ := (F3.block _ (by rw [hsz2]; omega) e1).trans hi2
  have hx3 : w3.heap[w.heap.size]? = _ := (F3.block _ (by rw [hsz2]; omega) e4).trans hx2
  have F3' := F2.trans F3
  clear hi2 hx2 F2 F3 hsz2
  generalize hby : w1.heap.size = bi at *
  have HBY : Hid _ := hby
  clear hby
  generalize hbr : w.heap.size = br at *
  have HBR : Hid _ := hbr
  clear hbr
  obtain ⟨⟨y0, y1, y2, y3, y4, y5, y6, y7, y8, y9⟩, yf⟩ := it_cells hi3
  have h4 := ((((h3.other e1 e2 4 (.int .i64 (kindOf u0))).other e1 e2 5 (.int .i64 u0.pl)).other e1 e2 6 (.int .i64 (nmOf u0))).other e1 e2 7 (S (ownOf u0)))
  have hgb : w.heap.size ≤ bi := by rw [HBR.out]; exact hge
  have F4 := ((((F3'.new hgb 4 (.int .i64 (kindOf u0))).new hgb 5 (.int .i64 u0.pl)).new hgb 6 (.int .i64 (nmOf u0))).new hgb 7 (S (ownOf u0)))
  have hi4 := item_set (item_set (item_set (item_set hi3 4 (.int .i64 (kindOf u0))) 5 (.int .i64 u0.pl)) 6 (.int .i64 (nmOf u0))) 7 (S (ownOf u0))
  have hx4 := (pitem_far e3 7 (S (ownOf u0))).trans ((pitem_far e3 6 (.int .i64 (nmOf u0))).trans ((pitem_far e3 5 (.int .i64 u0.pl)).trans ((pitem_far e3 4 (.int .i64 (kindOf u0))).trans hx3)))
  have H4 : Hid _ := h4
  have HF4 : Hid _ := F4
  have HI4 : Hid _ := hi4
  have HX4 : Hid _ := hx4
  have W3 := want_stp h4 [8] (by decide) (by decide)
  rw [← HE4.out, ← HE5.out] at W3
  have hl4 := lt_of_get hi4
  have hl4' := lt_of_get hx4
  simp only [World.size_setCell] at W3 hl4 hl4'
  clear h3 F3' hi3 hx3 h4 F4 hi4 hx4 HE2 HE3 HE4 HE5
  generalize wantW ts ok2 j2 [8] = wv3 at *
  go_wp2_with fail
  refine W3.mono ?_
  rintro e w5 ⟨rfl, h5, F5⟩
  clear W3 y0 y1 y2 y3 y4 y5 y6 y7 y8 y9 yf
  have hi5 : w5.heap[bi]? = some (.cells #[.int .i64 11, .int .i64 t0.pl, .int .i64 (nmOf t0), S (ownOf t0), .int .i64 (kindOf u0), .int .i64 u0.pl, .int .i64 (nmOf u0), S (ownOf u0), .int .i64 0, .pointer none] 163 (0, 0)) := (F5.block bi (by simpa using hl4) e1).trans HI4.out
  have hx5 := (F5.block br (by simpa using hl4') e4).trans HX4.out
  have F5' := HF4.out.trans F5
  clear H4 HF4 HI4 HX4 F5 hl4 hl4'
  have W4 := cond_stp hf HG.out h5 HP.out
  rw [← HE6.out, ← HE7.out] at W4
  obtain ⟨⟨y0, y1, y2, y3, y4, y5, y6, y7, y8, y9⟩, yf⟩ := it_cells hi5
  clear y0 y1 y2 y3 y4 y5 y6 y7 y8 y9 yf
  have hl5 := lt_of_get hi5
  have hl5' := lt_of_get hx5
  have HI5 : Hid _ := hi5
  have HX5 : Hid _ := hx5
  have HF5 : Hid _ := F5'
  clear hi5 hx5 F5' h5
  go_wp2_with fail
  refine W4.mono ?_
  rintro e w6 ⟨b, rfl, F6, h6, hC6⟩
  clear W4
  have hi6 := (F6.block bi hl5 e1).trans HI5.out
  have hx6 := (F6.block br hl5' e4).trans HX5.out
  have h7 := h6.other e1 e2 9 (.pointer (some ⟨b, 0, none⟩))
  have F7 := (HF5.out.trans F6).new hgb 9 (.pointer (some ⟨b, 0, none⟩))
  have hi7 : (w6.setCell ⟨bi, 9, none⟩ (.pointer (some ⟨b, 0, none⟩))).heap[bi]? = some (.cells #[.int .i64 11, .int .i64 t0.pl, .int .i64 (nmOf t0), S (ownOf t0), .int .i64 (kindOf u0), .int .i64 u0.pl, .int .i64 (nmOf u0), S (ownOf u0), .int .i64 0, .pointer (some ⟨b, 0, none⟩)] 163 (0, 0)) := item_set hi6 9 (.pointer (some ⟨b, 0, none⟩))
  have hx7 := (pitem_far e3 9 (.pointer (some ⟨b, 0, none⟩))).trans hx6
  have hC7 : ok4 = true → CondAt a.L rb (w6.setCell ⟨bi, 9, none⟩ (.pointer (some ⟨b, 0, none⟩))) a.top b := fun e => (hC6 e).item hi6 _ _
  obtain ⟨⟨y0, y1, y2, y3, y4, y5, y6, y7, y8, y9⟩, yf⟩ := it_cells hi6
  have W5 := want_stp h7 [5] (by decide) (by decide)
  rw [← HE8.out, ← HE9.out] at W5
  simp only [World.size_setCell] at W5
  have H7 : Hid _ := h7
  have HF7 : Hid _ := F7
  have HI7 : Hid _ := hi7
  have HX7 : Hid _ := hx7
  have HC7 : Hid _ := hC7
  clear h6 h7 F7 hi7 hx7 hC7 hC6 F6 hi6 hx6 HI5 HX5 HF5
  generalize wantW ts ok4 j4 [5] = wv5 at *
  go_wp2_with fail
  refine W5.mono ?_
  rintro e w8 ⟨rfl, h8, F8⟩
  clear W5 y0 y1 y2 y3 y4 y5 y6 y7 y8 y9 yf
  have hi8 := (F8.block bi (lt_of_get HI7.out) e1).trans HI7.out
  have hx8 := (F8.block br (lt_of_get HX7.out) e4).trans HX7.out
  have F8' := HF7.out.trans F8
  have hC8 : ok4 = true → CondAt a.L rb w8 a.top b := fun e => (HC7.out e).pf H7.out F8
  clear H7 HF7 HI7 HX7 HC7 F8
  obtain ⟨⟨y0, y1, y2, y3, y4, y5, y6, y7, y8, y9⟩, yf⟩ := it_cells hi8
  obtain ⟨⟨z0, z1, z2, z3, z4, z5, z6, z7, z8, z9⟩, zf⟩ := it_cells hx8
  have H8 : Hid _ := h8
  have HF8 : Hid _ := F8'
  have HC8 : Hid _ := hC8
  have HX8 : Hid _ := hx8
  clear h8 F8' hC8 hi8 hx8
  have e3' := e3.symm
  clear HE6 HE7 HE8 HE9 HP
  go_wp2_with fail
  have hbr : w.heap.size ≤ br := Nat.le_of_eq HBR.out
  refine bodyPost_ret (v := .agg #[.int .i64 11, .int .i64 t0.pl, .int .i64 (nmOf t0), S (ownOf t0), .int .i64 (kindOf u0), .int .i64 u0.pl, .int .i64 (nmOf u0), S (ownOf u0), .int .i64 0, .pointer (some ⟨b, 0, none⟩)]) (by simp [results, Tryz.results104, go_sem, z0, z1, z2, z3, z4, z5, z6, z7, z8, z9, zf]) rfl ⟨b, ?_, ?_, ?_, ?_⟩
  · rw [HV.out, hk]; rfl
  · exact (((((((((HF8.out.new hbr _ _).new hbr _ _).new hbr _ _).new hbr _ _).new hbr _ _).new hbr _ _).new hbr _ _).new hbr _ _).new hbr _ _).new hbr _ _
  · exact (((((((((H8.out.other e4 e5 _ _).other e4 e5 _ _).other e4 e5 _ _).other e4 e5 _ _).other e4 e5 _ _).other e4 e5 _ _).other e4 e5 _ _).other e4 e5 _ _).other e4 e5 _ _).other e4 e5 _ _
  · intro e
    have c1 := (HC8.out e).item HX8.out 0 (.int .i64 11)
    have x1 := item_set HX8.out 0 (.int .i64 11)
    have c2 := c1.item x1 1 (.int .i64 t0.pl)
    have x2 := item_set x1 1 (.int .i64 t0.pl)
    have c3 := c2.item x2 2 (.int .i64 (nmOf t0))
    have x3 := item_set x2 2 (.int .i64 (nmOf t0))
    have c4 := c3.item x3 3 (S (ownOf t0))
    have x4 := item_set x3 3 (S (ownOf t0))
    have c5 := c4.item x4 4 (.int .i64 (kindOf u0))
    have x5 := item_set x4 4 (.int .i64 (kindOf u0))
    have c6 := c5.item x5 5 (.int .i64 u0.pl)
    have x6 := item_set x5 5 (.int .i64 u0.pl)
    have c7 := c6.item x6 6 (.int .i64 (nmOf u0))
    have x7 := item_set x6 6 (.int .i64 (nmOf u0))
    have c8 := c7.item x7 7 (S (ownOf u0))
    have x8 := item_set x7 7 (S (ownOf u0))
    have c9 := c8.item x8 8 (.int .i64 0)
    have x9 := item_set x8 8 (.int .i64 0)
    exact c9.item x9 9 (.pointer (some ⟨b, 0, none⟩))
set_option maxHeartbeats 4000000 in
theorem item_rule {f rb gl cl : Nat} {ts : List Tok} {s : Q} {w : World} (hf : FormOK f 152 6 rb gl cl ts) (h : RR rb gl cl ts s w) (hgood : s.bad = false) (hk : kindOf (wantT ts true s.i [11, 12, 13]) ≠ 11) {ok2 ok3 : Bool} {j2 j3 : Nat} (e2 : ok2 = sees ts [11, 12, 13] s.i) (e3 : j2 = nextI ok2 s.i) (e4 : ok3 = (ok2 && sees ts [14] j2)) (e5 : j3 = nextI ok3 j2) {L : List Pt} {a : Rd}
    (hP : ok3 = true → P f 6 ts j3 L 0 = some a) {ok4 ok5 : Bool} {j4 j5 : Nat} (e6 : j4 = if ok3 then a.i else j3) (e7 : ok4 = (ok3 && a.ok)) (e8 : ok5 = (ok4 && sees ts [5] j4)) (e9 : j5 = nextI ok5 j4) :
    Calls Tryz.prog 104 #[.pointer (some ⟨rb, 0, none⟩)] w fun e w' => ∃ b, e = .returned (itV (wantT ts true s.i [11, 12, 13]) zTok b) ∧ PF rb w w' ∧ RR rb gl cl ts (Stp ts s ok5 j5) w' ∧ (ok4 = true → CondAt a.L rb w' a.top b) := by
  have h0 : RR rb gl cl ts (Stp ts s true s.i) (w.alloc (itObj zTok zTok (.pointer none))) := h.alloc _
  have hr0 : (w.alloc (itObj zTok zTok (.pointer none))).heap[w.heap.size]? = some (itObj zTok zTok (.pointer none)) := heap_alloc_new w _
  have F0 : PF rb w (w.alloc (itObj zTok zTok (.pointer none))) := (PF.refl rb w).alloc _
  have hrl := h.rlt
  have hgl := h.glt
  have W1 := want_stp h0 [11, 12, 13] (by decide) (by decide)
  rw [wantW_tok] at W1
  rw [Bool.true_and, ← e2, ← e3] at W1
  have HE2 : Hid _ := e2
  have HE3 : Hid _ := e3
  have HE4 : Hid _ := e4
  have HE5 : Hid _ := e5
  have HP : Hid _ := hP
  have HR0 : Hid _ := hr0
  have HG : Hid _ := hgood
  have HF0 : Hid _ := F0
  have HIT : Hid (∀ t u v, itObj t u v = .cells #[.int .i64 (kindOf t), .int .i64 t.pl, .int .i64 (nmOf t), S (ownOf t), .int .i64 (kindOf u), .int .i64 u.pl, .int .i64 (nmOf u), S (ownOf u), .int .i64 0, v] 163 (0, 0)) := fun _ _ _ => rfl
  have HE6 : Hid _ := e6
  have HE7 : Hid _ := e7
  have HE8 : Hid _ := e8
  have HE9 : Hid _ := e9
  clear e6 e7 e8 e9 e2 e3 e4 e5 hP hr0 hgood h h0 F0
  have hsz : (w.alloc (itObj zTok zTok (.pointer none))).heap.size = w.heap.size + 1 := by simp
  have HV : Hid (∀ b, itV (wantT ts true s.i [11, 12, 13]) zTok b = .agg #[.int .i64 (kindOf (wantT ts true s.i [11, 12, 13])), .int .i64 (wantT ts true s.i [11, 12, 13]).pl, .int .i64 (nmOf (wantT ts true s.i [11, 12, 13])), S (ownOf (wantT ts true s.i [11, 12, 13])), .int .i64 0, .int .i64 0, .int .i64 0, S [], .int .i64 0, .pointer (some ⟨b, 0, none⟩)]) := fun _ => rfl
  generalize itV (wantT ts true s.i [11, 12, 13]) zTok = iv at HV ⊢
  generalize wantT ts true s.i [11, 12, 13] = t0 at *
  generalize hkk : kindOf t0 = kk at *
  have hk2 : ((kk : Int) == (11 : Int)) = false := by
    have : ¬ ((kk : Int) = 11) := by omega
    simpa using this
  go_enter Tryz.func104, Tryz.ntmps104
  go_wp2_with fail
  rw [hsz] at W1
  refine W1.mono ?_
  rintro e w1 ⟨rfl, h1, F1⟩
  clear W1
  have hx1 : w1.heap[w.heap.size]? = some (itObj zTok zTok (.pointer none)) := by rw [F1.block _ (by rw [hsz]; omega) (by omega)]; exact HR0.out
  have hl1 := lt_of_get hx1
  have h2 := h1.alloc (itObj t0 zTok (.pointer none))
  have F2 := (HF0.out.trans F1).alloc (itObj t0 zTok (.pointer none))
  have hi2 : (w1.alloc (itObj t0 zTok (.pointer none))).heap[w1.heap.size]? = some (itObj t0 zTok (.pointer none)) := heap_alloc_new w1 _
  have hx2 : (w1.alloc (itObj t0 zTok (.pointer none))).heap[w.heap.size]? = some (itObj zTok zTok (.pointer none)) := by rw [Below.heap_alloc _ _ _ hl1]; exact hx1
  have e1 : w1.heap.size ≠ rb := by have := h1.rlt; omega
  have e2 : w1.heap.size ≠ gl := by have := h1.glt; omega
  have e3 : w.heap.size ≠ w1.heap.size := by omega
  have e4 : w.heap.size ≠ rb := by omega
  have e5 : w.heap.size ≠ gl := by omega
  have hge : w.heap.size ≤ w1.heap.size := by omega
  clear h1 F1 hx1 HR0 HF0
  have hsz2 : (w1.alloc (itObj t0 zTok (.pointer none))).heap.size = w1.heap.size + 1 := by simp
  have W3 := want_stp h2 [14] (by decide) (by decide)
  rw [← HE4.out, ← HE5.out] at W3
  rw [hsz2] at W3
  simp only [HIT.out, hkk] at h2 F2 hsz2 hi2 hx2 W3
  have hl4 := lt_of_get hi2
  have hl4' := lt_of_get hx2
  clear HE2 HE3 HE4 HE5 h2
  generalize wantW ts ok2 j2 [14] = wv3 at *
  go_wp2_with fail
  refine W3.mono ?_
  rintro e w5 ⟨rfl, h5, F5⟩
  clear W3
  have hi5 : w5.heap[w1.heap.size]? = some (.cells #[.int .i64 kk, .int .i64 t0.pl, .int .i64 (nmOf t0), S (ownOf t0), .int .i64 0, .int .i64 0, .int .i64 0, S [], .int .i64 0, .pointer none] 163 (0, 0)) := (F5.block w1.heap.size hl4 e1).trans hi2
  have hx5 := (F5.block w.heap.size hl4' e4).trans hx2
  have F5' := F2.trans F5
  clear F2 F5 hl4 hl4' hi2 hx2 hsz2
  generalize hby : w1.heap.size = bi at *
  have HBY : Hid _ := hby
  clear hby
  generalize hbr : w.heap.size = br at *
  have HBR : Hid _ := hbr
  clear hbr
  have hgb : w.heap.size ≤ bi := by rw [HBR.out]; exact hge
  have W4 := cond_stp hf HG.out h5 HP.out
  rw [← HE6.out, ← HE7.out] at W4
  obtain ⟨⟨y0, y1, y2, y3, y4, y5, y6, y7, y8, y9⟩, yf⟩ := it_cells hi5
  clear y0 y1 y2 y3 y4 y5 y6 y7 y8 y9 yf
  have hl5 := lt_of_get hi5
  have hl5' := lt_of_get hx5
  have HI5 : Hid _ := hi5
  have HX5 : Hid _ := hx5
  have HF5 : Hid _ := F5'
  clear hi5 hx5 F5' h5
  go_wp2_with fail
  refine W4.mono ?_
  rintro e w6 ⟨b, rfl, F6, h6, hC6⟩
  clear W4
  have hi6 := (F6.block bi hl5 e1).trans HI5.out
  have hx6 := (F6.block br hl5' e4).trans HX5.out
  have h7 := h6.other e1 e2 9 (.pointer (some ⟨b, 0, none⟩))
  have F7 := (HF5.out.trans F6).new hgb 9 (.pointer (some ⟨b, 0, none⟩))
  have hi7 : (w6.setCell ⟨bi, 9, none⟩ (.pointer (some ⟨b, 0, none⟩))).heap[bi]? = some (.cells #[.int .i64 kk, .int .i64 t0.pl, .int .i64 (nmOf t0), S (ownOf t0), .int .i64 0, .int .i64 0, .int .i64 0, S [], .int .i64 0, .pointer (some ⟨b, 0, none⟩)] 163 (0, 0)) := item_set hi6 9 (.pointer (some ⟨b, 0, none⟩))
  have hx7 := (pitem_far e3 9 (.pointer (some ⟨b, 0, none⟩))).trans hx6
  have hC7 : ok4 = true → CondAt a.L rb (w6.setCell ⟨bi, 9, none⟩ (.pointer (some ⟨b, 0, none⟩))) a.top b := fun e => (hC6 e).item hi6 _ _
  obtain ⟨⟨y0, y1, y2, y3, y4, y5, y6, y7, y8, y9⟩, yf⟩ := it_cells hi6
  have W5 := want_stp h7 [5] (by decide) (by decide)
  rw [← HE8.out, ← HE9.out] at W5
  simp only [World.size_setCell] at W5
  have H7 : Hid _ := h7
  have HF7 : Hid _ := F7
  have HI7 : Hid _ := hi7
  have HX7 : Hid _ := hx7
  have HC7 : Hid _ := hC7
  clear h6 h7 F7 hi7 hx7 hC7 hC6 F6 hi6 hx6 HI5 HX5 HF5
  generalize wantW ts ok4 j4 [5] = wv5 at *
  go_wp2_with fail
  refine W5.mono ?_
  rintro e w8 ⟨rfl, h8, F8⟩
  clear W5 y0 y1 y2 y3 y4 y5 y6 y7 y8 y9 yf
  have hi8 := (F8.block bi (lt_of_get HI7.out) e1).trans HI7.out
  have hx8 := (F8.block br (lt_of_get HX7.out) e4).trans HX7.out
  have F8' := HF7.out.trans F8
  have hC8 : ok4 = true → CondAt a.L rb w8 a.top b := fun e => (HC7.out e).pf H7.out F8
  clear H7 HF7 HI7 HX7 HC7 F8
  obtain ⟨⟨y0, y1, y2, y3, y4, y5, y6, y7, y8, y9⟩, yf⟩ := it_cells hi8
  obtain ⟨⟨z0, z1, z2, z3, z4, z5, z6, z7, z8, z9⟩, zf⟩ := it_cells hx8
  have H8 : Hid _ := h8
  have HF8 : Hid _ := F8'
  have HC8 : Hid _ := hC8
  have HX8 : Hid _ := hx8
  clear h8 F8' hC8 hi8 hx8
  have e3' := e3.symm
  clear HE6 HE7 HE8 HE9 HP
  go_wp2_with fail
  have hbr : w.heap.size ≤ br := Nat.le_of_eq HBR.out
  refine bodyPost_ret (v := .agg #[.int .i64 kk, .int .i64 t0.pl, .int .i64 (nmOf t0), S (ownOf t0), .int .i64 0, .int .i64 0, .int .i64 0, S [], .int .i64 0, .pointer (some ⟨b, 0, none⟩)]) (by simp [results, Tryz.results104, go_sem, z0, z1, z2, z3, z4, z5, z6, z7, z8, z9, zf]) rfl ⟨b, ?_, ?_, ?_, ?_⟩
  · rw [HV.out]
  · exact (((((((((HF8.out.new hbr _ _).new hbr _ _).new hbr _ _).new hbr _ _).new hbr _ _).new hbr _ _).new hbr _ _).new hbr _ _).new hbr _ _).new hbr _ _
  · exact (((((((((H8.out.other e4 e5 _ _).other e4 e5 _ _).other e4 e5 _ _).other e4 e5 _ _).other e4 e5 _ _).other e4 e5 _ _).other e4 e5 _ _).other e4 e5 _ _).other e4 e5 _ _).other e4 e5 _ _
  · intro e
    have c1 := (HC8.out e).item HX8.out 0 (.int .i64 kk)
    have x1 := item_set HX8.out 0 (.int .i64 kk)
    have c2 := c1.item x1 1 (.int .i64 t0.pl)
    have x2 := item_set x1 1 (.int .i64 t0.pl)
    have c3 := c2.item x2 2 (.int .i64 (nmOf t0))
    have x3 := item_set x2 2 (.int .i64 (nmOf t0))
    have c4 := c3.item x3 3 (S (ownOf t0))
    have x4 := item_set x3 3 (S (ownOf t0))
    have c5 := c4.item x4 4 (.int .i64 0)
    have x5 := item_set x4 4 (.int .i64 0)
    have c6 := c5.item x5 5 (.int .i64 0)
    have x6 := item_set x5 5 (.int .i64 0)
    have c7 := c6.item x6 6 (.int .i64 0)
    have x7 := item_set x6 6 (.int .i64 0)
    have c8 := c7.item x7 7 (S [])
    have x8 := item_set x7 7 (S [])
    have c9 := c8.item x8 8 (.int .i64 0)
    have x9 := item_set x8 8 (.int .i64 0)
    exact c9.item x9 9 (.pointer (some ⟨b, 0, none⟩))
end Go.Proofs.YtfkdailfcmnjlaaGreatDoor

namespace Go.Proofs.YtfkdailfcmnjlaaGreatDoor
open Go Go.RowKit
set_option maxRecDepth 100000

theorem tok_cases {ts : List Tok} (hW : ∀ t ∈ ts, TokW t) (j : Nat) : TokW (tokAt ts j) ∨ tokAt ts j = noTok := by
  by_cases h : tokAt ts j = noTok
  · exact .inr h
  · exact .inl (hW _ (inside h).2)
theorem see_iff {ts : List Tok} (hW : ∀ t ∈ ts, TokW t) (j : Nat) {x : List UInt8} (hx : x ∈ spell.drop 3) {k : Nat} (hk : kn x = k) : isW (tokAt ts j) x = decide (kindOf (tokAt ts j) = k) := by
  rcases tok_cases hW j with h | h
  · rw [Bool.eq_iff_iff, isW_iff h hx, hk]; simp
  · have := spell_big x hx
    rw [h, noTok_isW, show kindOf noTok = 0 from by decide, ← hk]
    unfold kn
    symm; rw [decide_eq_false_iff_not]; omega
theorem kind_two {t : Tok} : kindOf t = 2 ↔ t.k = 111 := by
  unfold kindOf
  constructor
  · intro h
    by_cases h1 : t.k = 110
    · rw [if_pos h1] at h; simp at h
    · rw [if_neg h1] at h
      by_cases h2 : t.k = 111
      · exact h2
      · rw [if_neg h2] at h
        by_cases h3 : t.k = 101
        · rw [if_pos h3] at h; simp at h
        · rw [if_neg h3] at h
          exfalso
          have key : ∀ x : List UInt8, (idx spell x).toNat ≠ 2 := by
            intro x
            by_cases hx : x = []
            · subst hx; decide
            · have hx' : ∀ r : List (List UInt8), idx ([] :: r) x = if idx r x < 0 then -1 else idx r x + 1 := fun r => by
                rw [idx, if_neg (by simpa using hx)]
              have e : spell = [] :: [] :: [] :: spell.drop 3 := by decide
              rw [e, hx', hx', hx']
              have := idx_ge (spell.drop 3) x
              split
              · decide
              · omega
          exact key _ h
  · intro h; rw [if_neg (by omega), if_pos h]
theorem sees_one (ts : List Tok) (k j : Nat) : sees ts [k] j = decide (kindOf (tokAt ts j) = k) := by
  unfold sees; exact one_contains _ _

/-- The words of an item. -/
def ItOf (x : Itm) (t u : Tok) : Prop :=
  (x.name ≠ [] ∧ kindOf t = 11 ∧ t.pl = x.pl ∧ kindOf u = 2 ∧ u.pl = x.named ∧ ownOf u = x.name ∧ nmOf u = 0) ∨
  (x.name = [] ∧ kindOf t = (if x.allow then 12 else 13) ∧ t.pl = x.pl ∧ u = zTok)
/-- What reading an item leaves. -/
def LeftPI (rb gl cl : Nat) (ts : List Tok) (s : Q) (w : World) (r : ItR) (e : Ending) (w' : World) : Prop :=
  ∃ t u b, e = .returned (itV t u b) ∧ PF rb w w' ∧ ((r.ok = true ∧ RR rb gl cl ts { s with i := r.i } w' ∧ CondAt r.L rb w' r.it.top b ∧ ItOf r.it t u) ∨ (r.ok = false ∧ RR rb gl cl ts (failQ ts { s with i := r.i }) w'))

theorem tail_parts {f : Nat} {ts : List Tok} {i : Nat} {L : List Pt} {x : Itm} {r : ItR} (h : itemTail f ts i L x = some r) :
    ∃ a : Rd, P f 6 ts i L 0 = some a ∧ ((a.ok = true ∧ isW (tokAt ts a.i) [59] = true ∧ r = ⟨true, a.i + 1, a.L, { x with top := a.top, parts := a.L.length }⟩) ∨ ((a.ok && isW (tokAt ts a.i) [59]) = false ∧ r.ok = false ∧ r.i = a.i)) := by
  unfold itemTail at h
  cases ha : P f 6 ts i L 0 with
  | none => rw [ha] at h; simp at h
  | some a =>
    rw [ha] at h
    simp only at h
    refine ⟨a, rfl, ?_⟩
    by_cases ok : a.ok = true
    · rw [if_pos ok] at h
      by_cases hw : isW (tokAt ts a.i) [59] = true
      · rw [if_pos hw] at h; simp at h; exact .inl ⟨ok, hw, h.symm⟩
      · rw [if_neg hw] at h; simp [itFail] at h; subst h; exact .inr ⟨by rw [ok]; simpa using hw, rfl, rfl⟩
    · rw [if_neg ok] at h; simp [itFail] at h; subst h
      exact .inr ⟨by simp at ok; rw [ok]; rfl, rfl, rfl⟩

theorem pitem_any {f rb gl cl : Nat} {ts : List Tok} {s : Q} {w : World} (hf : FormOK f 152 6 rb gl cl ts) (hW : ∀ t ∈ ts, TokW t) (hN : ∀ t ∈ ts, t.k = 111 → t.text ≠ []) (h : RR rb gl cl ts s w) (hgood : s.bad = false) {L : List Pt} {r : ItR} (hI : itemP f ts s.i L = some r) :
    Calls Tryz.prog 104 #[.pointer (some ⟨rb, 0, none⟩)] w (LeftPI rb gl cl ts s w r) := by
  unfold itemP at hI
  have sLet := see_iff hW s.i (x := wLet) (by decide) (k := 11) (by decide)
  have sAllow := see_iff hW s.i (x := wAllow) (by decide) (k := 12) (by decide)
  have sDeny := see_iff hW s.i (x := wDeny) (by decide) (k := 13) (by decide)
  have finish : ∀ {ok3 : Bool} {j3 : Nat} {a : Rd} {t u : Tok} {x : Itm} {ok4 ok5 : Bool} {j4 j5 : Nat}, ok3 = true → j4 = (if ok3 then a.i else j3) → ok4 = (ok3 && a.ok) → ok5 = (ok4 && sees ts [5] j4) → j5 = nextI ok5 j4 → ItOf { x with top := a.top, parts := a.L.length } t u →
      ((a.ok = true ∧ isW (tokAt ts a.i) [59] = true ∧ r = ⟨true, a.i + 1, a.L, { x with top := a.top, parts := a.L.length }⟩) ∨ ((a.ok && isW (tokAt ts a.i) [59]) = false ∧ r.ok = false ∧ r.i = a.i)) →
      ∀ e w', (∃ b, e = .returned (itV t u b) ∧ PF rb w w' ∧ RR rb gl cl ts (Stp ts s ok5 j5) w' ∧ (ok4 = true → CondAt a.L rb w' a.top b)) → LeftPI rb gl cl ts s w r e w' := by
    intro ok3 j3 a t u x ok4 ok5 j4 j5 e3 e6 e7 e8 e9 hO hr e w' ⟨b, he, hF, hR, hC⟩
    subst e3
    have e6 : j4 = a.i := e6
    rw [Bool.true_and] at e7
    subst e6
    have hs := see_iff hW a.i (x := [59]) (by decide) (k := 5) (by decide)
    rw [sees_one, ← hs, e7] at e8
    refine ⟨t, u, b, he, hF, ?_⟩
    rcases hr with ⟨ok, hw, rfl⟩ | ⟨no, rok, ri⟩
    · rw [ok, hw] at e8
      have e8 : ok5 = true := e8
      subst e8; subst e9
      exact .inl ⟨rfl, hR, hC (by rw [e7]; exact ok), hO⟩
    · rw [no] at e8
      subst e8; subst e9
      exact .inr ⟨rok, by rw [ri]; exact hR⟩
  have fails : ∀ {t u : Tok} {j : Nat} {a : Rd} {ok4 : Bool}, r = ⟨false, j, [], noItm⟩ → ∀ e w', (∃ b, e = .returned (itV t u b) ∧ PF rb w w' ∧ RR rb gl cl ts (Stp ts s false j) w' ∧ (ok4 = true → CondAt a.L rb w' a.top b)) → LeftPI rb gl cl ts s w r e w' := by
    intro t u j a ok4 e e' w' ⟨b, he, hF, hR, _⟩
    subst e
    exact ⟨t, u, b, he, hF, .inr ⟨rfl, hR⟩⟩
  by_cases hl : isW (tokAt ts s.i) wLet = true
  · rw [if_pos hl] at hI
    have hk : kindOf (tokAt ts s.i) = 11 := by rw [sLet] at hl; simpa using hl
    by_cases ho : (tokAt ts (s.i + 1)).k = 111
    · rw [if_pos ho] at hI
      have k2 : sees ts [2] (s.i + 1) = true := by rw [sees_one]; simpa using kind_two.2 ho
      have s8 := see_iff hW (s.i + 2) (x := [61]) (by decide) (k := 8) (by decide)
      have eu : wantT ts true (s.i + 1) [2] = tokAt ts (s.i + 1) := by unfold wantT; rw [k2]; rfl
      have hne := hN _ (inside (ts := ts) (i := s.i + 1) fun e => by rw [e] at ho; simp [noTok] at ho).2 ho
      by_cases h8 : isW (tokAt ts (s.i + 2)) [61] = true
      · rw [if_pos h8] at hI
        obtain ⟨a, hP, hr⟩ := tail_parts hI
        have k8 : sees ts [8] (s.i + 2) = true := by rw [sees_one, ← s8]; exact h8
        refine (pitem_let hf h hgood hk (ok2 := true) (ok3 := true) (j2 := s.i + 2) (j3 := s.i + 3) k2.symm rfl (by rw [k8]; rfl) rfl (fun _ => hP) rfl rfl rfl rfl).mono ?_
        refine finish (ok3 := true) (j3 := s.i + 3) rfl rfl rfl rfl rfl ?_ hr
        rw [eu]
        refine .inl ⟨hne, hk, rfl, kind_two.2 ho, rfl, ?_, ?_⟩
        · unfold ownOf; rw [if_pos ho]
        · unfold nmOf; rw [if_neg (by omega)]
      · rw [if_neg h8] at hI
        have k8 : sees ts [8] (s.i + 2) = false := by rw [sees_one, ← s8]; simpa using h8
        simp [itFail] at hI
        refine (pitem_let hf h hgood hk (ok2 := true) (ok3 := false) (j2 := s.i + 2) (j3 := s.i + 2) k2.symm rfl (by rw [k8]; rfl) rfl (L := L) (a := ⟨false, 0, [], 0⟩) (fun e => by simp at e) rfl rfl rfl rfl).mono ?_
        exact fails hI.symm
    · rw [if_neg ho] at hI
      have k2 : sees ts [2] (s.i + 1) = false := by rw [sees_one]; simpa using fun e => ho (kind_two.1 e)
      simp [itFail] at hI
      refine (pitem_let hf h hgood hk (ok2 := false) (ok3 := false) (j2 := s.i + 1) (j3 := s.i + 1) k2.symm rfl rfl rfl (L := L) (a := ⟨false, 0, [], 0⟩) (fun e => by simp at e) rfl rfl rfl rfl).mono ?_
      exact fails hI.symm
  · rw [if_neg hl] at hI
    have hk11 : kindOf (tokAt ts s.i) ≠ 11 := by rw [sLet] at hl; simpa using hl
    have hkw : kindOf (wantT ts true s.i [11, 12, 13]) ≠ 11 := by
      unfold wantT; split
      · exact hk11
      · decide
    have s3 : sees ts [11, 12, 13] s.i = (isW (tokAt ts s.i) wAllow || isW (tokAt ts s.i) wDeny) := by
      rw [sAllow, sDeny, Bool.eq_iff_iff]
      unfold sees
      rw [List.contains_iff_mem]
      simp [hk11]
    by_cases ha : (isW (tokAt ts s.i) wAllow || isW (tokAt ts s.i) wDeny) = true
    · rw [if_pos ha] at hI
      rw [ha] at s3
      have s14 := see_iff hW (s.i + 1) (x := wIf) (by decide) (k := 14) (by decide)
      have et : wantT ts true s.i [11, 12, 13] = tokAt ts s.i := by unfold wantT; rw [s3]; rfl
      by_cases hi : isW (tokAt ts (s.i + 1)) wIf = true
      · rw [if_pos hi] at hI
        obtain ⟨a, hP, hr⟩ := tail_parts hI
        have k14 : sees ts [14] (s.i + 1) = true := by rw [sees_one, ← s14]; exact hi
        refine (item_rule hf h hgood hkw (ok2 := true) (ok3 := true) (j2 := s.i + 1) (j3 := s.i + 2) s3.symm rfl (by rw [k14]; rfl) rfl (fun _ => hP) rfl rfl rfl rfl).mono ?_
        refine finish (ok3 := true) (j3 := s.i + 2) rfl rfl rfl rfl rfl ?_ hr
        rw [et]
        refine .inr ⟨rfl, ?_, rfl, rfl⟩
        simp only
        by_cases h12 : isW (tokAt ts s.i) wAllow = true
        · rw [if_pos (by simpa using (isW_text h12).1)]
          rw [sAllow] at h12; simpa using h12
        · have h13 : isW (tokAt ts s.i) wDeny = true := by
            simp at ha; rcases ha with ha | ha
            · exact absurd ha h12
            · exact ha
          rw [if_neg (by rw [(isW_text h13).1]; decide)]
          rw [sDeny] at h13; simpa using h13
      · rw [if_neg hi] at hI
        have k14 : sees ts [14] (s.i + 1) = false := by rw [sees_one, ← s14]; simpa using hi
        simp [itFail] at hI
        refine (item_rule hf h hgood hkw (ok2 := true) (ok3 := false) (j2 := s.i + 1) (j3 := s.i + 1) s3.symm rfl (by rw [k14]; rfl) rfl (L := L) (a := ⟨false, 0, [], 0⟩) (fun e => by simp at e) rfl rfl rfl rfl).mono ?_
        exact fails hI.symm
    · rw [if_neg ha] at hI
      have s3' : sees ts [11, 12, 13] s.i = false := by rw [s3]; simpa using ha
      simp [itFail] at hI
      refine (item_rule hf h hgood hkw (ok2 := false) (ok3 := false) (j2 := s.i) (j3 := s.i) s3'.symm rfl rfl rfl (L := L) (a := ⟨false, 0, [], 0⟩) (fun e => by simp at e) rfl rfl rfl rfl).mono ?_
      exact fails hI.symm
end Go.Proofs.YtfkdailfcmnjlaaGreatDoor

namespace Go.Proofs.YtfkdailfcmnjlaaGreatDoor
open Go Go.RowKit
set_option maxRecDepth 100000
attribute [local go_sem ↓] Go.wp_at_zero Go.wp_at_succ

theorem info_pitem : (Tryz.prog.info? 163).map (fun i => (i.zero, i.size, i.bytes)) = some (some (.agg #[.int .i64 0, .int .i64 0, .int .i64 0, .string ⟨#[]⟩, .int .i64 0, .int .i64 0, .int .i64 0, .string ⟨#[]⟩, .int .i64 0, .pointer none]), 10, 96) := by kernel_rfl

/-- An item's cells. -/
def icell (y : Tok × Tok × Nat × Int) : List Value := [.int .i64 (kindOf y.1), .int .i64 y.1.pl, .int .i64 (nmOf y.1), S (ownOf y.1), .int .i64 (kindOf y.2.1), .int .i64 y.2.1.pl, .int .i64 (nmOf y.2.1), S (ownOf y.2.1), .int .i64 y.2.2.2, .pointer (some ⟨y.2.2.1, 0, none⟩)]
def iCells (ys : List (Tok × Tok × Nat × Int)) : List Value := ys.flatMap icell
theorem iCells_len (ys : List (Tok × Tok × Nat × Int)) : (iCells ys).length = ys.length * 10 := by
  induction ys with
  | nil => rfl
  | cons t ts ih => simp [iCells, icell] at ih ⊢; omega
theorem iCells_snoc (ys : List (Tok × Tok × Nat × Int)) (y : Tok × Tok × Nat × Int) : iCells (ys ++ [y]) = iCells ys ++ icell y := by simp [iCells]
/-- The items lie as they were read. -/
def ItemsAt (C : Nat → Nat → Prop) : List Itm → List (Tok × Tok × Nat × Int) → Prop
  | [], [] => True
  | x :: xs, y :: ys => (C x.top y.2.2.1 ∧ ItOf x y.1 y.2.1) ∧ ItemsAt C xs ys
  | _, _ => False
theorem ItemsAt.mono {C C' : Nat → Nat → Prop} (hC : ∀ i b, C i b → C' i b) : ∀ {xs ys}, ItemsAt C xs ys → ItemsAt C' xs ys
  | [], [], _ => trivial
  | _ :: _, _ :: _, h => ⟨⟨hC _ _ h.1.1, h.1.2⟩, ItemsAt.mono hC h.2⟩
theorem ItemsAt.snoc {C : Nat → Nat → Prop} {x : Itm} {y : Tok × Tok × Nat × Int} (h1 : C x.top y.2.2.1) (h2 : ItOf x y.1 y.2.1) : ∀ {xs ys}, ItemsAt C xs ys → ItemsAt C (xs ++ [x]) (ys ++ [y])
  | [], [], _ => ⟨⟨h1, h2⟩, trivial⟩
  | _ :: _, _ :: _, h => ⟨h.1, ItemsAt.snoc h1 h2 h.2⟩
theorem ItemsAt.len {C : Nat → Nat → Prop} : ∀ {xs ys}, ItemsAt C xs ys → ys.length = xs.length
  | [], [], _ => rfl
  | _ :: _, _ :: _, h => by simp [ItemsAt.len h.2]

theorem item_fwd {F : Nat} {ts : List Tok} {i : Nat} {L : List Pt} {r : ItR} (h : itemP F ts i L = some r) (ok : r.ok = true) : i < r.i ∧ ∃ new, r.L = L ++ new := by
  have tail : ∀ (j : Nat) (x : Itm), i < j → itemTail F ts j L x = some r → i < r.i ∧ ∃ new, r.L = L ++ new := by
    intro j x hj hr
    obtain ⟨a, ha, hres⟩ := tail_parts hr
    rcases hres with ⟨oka, hw, rfl⟩ | ⟨_, hr1, _⟩
    · have f1 := (P_fwd F 6 ts j L 0 a ha oka (by omega)).1
      exact ⟨by simp; omega, P_new ha oka (by omega)⟩
    · rw [hr1] at ok; simp at ok
  unfold itemP at h
  split at h
  · split at h
    · split at h
      · exact tail _ _ (by omega) h
      · simp [itFail] at h; subst h; simp at ok
    · simp [itFail] at h; subst h; simp at ok
  · split at h
    · split at h
      · exact tail _ _ (by omega) h
      · simp [itFail] at h; subst h; simp at ok
    · simp [itFail] at h; subst h; simp at ok
theorem kind_end {t : Tok} (h : TokW t) : kindOf t = 0 ↔ t.k = 101 := by
  rcases h.cases with h | h | h | ⟨h, hm⟩
  · unfold kindOf; rw [if_pos h]; omega
  · unfold kindOf; rw [if_neg (by omega), if_pos h]; omega
  · unfold kindOf; rw [if_neg (by omega), if_neg (by omega), if_pos h]; simp [h]
  · rw [kind_word h]; have := spell_big _ hm; unfold kn; omega

theorem RR.grown {rb gl cl : Nat} {ts : List Tok} {s : Q} {w w' : World} {row : Option Nat} (h : RR rb gl cl ts s w) (hg : w.grownBy w' row) (h1 : row ≠ some rb) (h2 : row ≠ some gl) : RR rb gl cl ts s w' :=
  h.move (hg.block _ h.glt h2.symm) (by rw [hg.block _ h.rlt h1.symm]; exact h.rd) h.lt
/-- A row of items is not the reader, nor its words, nor a tree. -/
theorem row_block {w : World} {base : Nat} {v : Value} {n : Nat} {xs : List Value} (h : w.ownsRow base 163 10 v n xs) {k : Nat} (hk : v.ownBlock = some k) : ∃ cs, w.heap[k]? = some (.cells cs 163 (0, 0)) := by
  rcases h.2 with ⟨rfl, _⟩ | ⟨g, cap, cur, rfl, hb, hg, _⟩
  · simp [Value.ownBlock] at hk
  · simp [Value.ownBlock] at hk; subst hk; exact ⟨cur, hg⟩
theorem RR.apart {rb gl cl : Nat} {ts : List Tok} {s : Q} {w : World} (h : RR rb gl cl ts s w) {base : Nat} {v : Value} {n : Nat} {xs : List Value} (hr : w.ownsRow base 163 10 v n xs) : v.ownBlock ≠ some rb ∧ v.ownBlock ≠ some gl := by
  constructor
  · intro e
    obtain ⟨cs, hc⟩ := row_block hr e
    rw [h.rd] at hc; simp [rdObj] at hc
  · intro e
    obtain ⟨cs, hc⟩ := row_block hr e
    obtain ⟨cs', hw⟩ := h.wl
    rw [hw] at hc; simp at hc
theorem CondAt.grown {L : List Pt} {lt : Nat} {w w' : World} {i b : Nat} (h : CondAt L lt w i b) {base : Nat} {v : Value} {n : Nat} {xs : List Value} (hr : w.ownsRow base 163 10 v n xs) (hg : w.grownBy w' v.ownBlock) : CondAt L lt w' i b :=
  h.keep fun k cs ty hk ht => hg.block k (lt_of_get hk) fun e => by
    obtain ⟨cs', hc⟩ := row_block hr e.symm
    rw [hk] at hc
    simp only [Option.some.injEq, Obj.cells.injEq] at hc
    rw [hc.2.1] at ht
    exact absurd ht (by decide)
theorem ownsRow_pf {w w' : World} {rb gl cl : Nat} {ts : List Tok} {s : Q} (hR : RR rb gl cl ts s w) {base : Nat} {v : Value} {n : Nat} {xs : List Value} (h : w.ownsRow base 163 10 v n xs) (hb : PF rb w w') : w'.ownsRow base 163 10 v n xs := by
  have ha := (hR.apart h).1
  obtain ⟨h1, h2⟩ := h
  refine ⟨h1, ?_⟩
  rcases h2 with h2 | ⟨g, cap, cur, rfl, b, c, d⟩
  · exact .inl h2
  · refine .inr ⟨g, cap, cur, rfl, b, ?_, d⟩
    rw [hb.block g (lt_of_get c) (fun e => ha (by rw [e]; rfl))]; exact c
end Go.Proofs.YtfkdailfcmnjlaaGreatDoor

namespace Go.Proofs.YtfkdailfcmnjlaaGreatDoor
open Go Go.RowKit
set_option maxRecDepth 100000
attribute [local go_sem ↓] Go.wp_at_zero Go.wp_at_succ
variable {bs : Nat}

set_option maxHeartbeats 4000000 in
theorem typeOfWord_any (k : Nat) (w : World) (hk : k ≤ 100) : Calls Tryz.prog 154 #[.int .i64 k] w fun e w' => e = .returned (.int .i64 (wordK k)) ∧ w' = w := by
  have HK : Hid (wordK k = if k = 1 ∨ (27 ≤ k ∧ k ≤ 30) then 1 else if k = 20 ∨ k = 21 ∨ k = 34 ∨ k = 35 then 2 else if (22 ≤ k ∧ k ≤ 26) ∨ (31 ≤ k ∧ k ≤ 33) then 3 else 0) := rfl
  generalize wordK k = r at *
  go_enter Tryz.func154, Tryz.ntmps154
  go_wp2
  all_goals go_ret
  all_goals refine ⟨ret_int ?_, rfl⟩
  all_goals rw [HK.out]
  all_goals clear HK
  all_goals (repeat' split)
  all_goals first
    | rfl
    | (exfalso; omega)
    | (exfalso; simp at *; omega)

set_option maxHeartbeats 2000000 in
theorem ifAll_any (us : List Nat) (g o cap want give : Nat) (w : World) (hl : us.length ≤ 100) (hb : want ≤ 100)
    (hc : ∀ j, j < us.length → w.cell? ⟨g, o + j, none⟩ = some (.int .i64 (us.getD j 0)) ∧ us.getD j 0 ≤ 100) :
    Calls Tryz.prog 218 #[.slice (some ⟨g, o, none⟩) us.length cap, .int .i64 want, .int .i64 give] w fun e w' => e = .returned (.int .i64 (ifAllK us want give)) ∧ w' = w := by
  have HC : Hid _ := hc
  clear hc
  go_enter Tryz.func218, Tryz.ntmps218
  go_wp2
  go_loop [11] (fun i => ∃ k : Nat, k ≤ us.length ∧ i = .int .i64 k ∧ Hid (∀ q, q < k → us.getD q 0 = want)) (fun i => us.length - (intOf i).toNat)
  case atStart => exact ⟨0, Nat.zero_le _, rfl, fun q hq => by omega⟩
  case round =>
    obtain ⟨k, hk, rfl, HQ⟩ := hrel
    by_cases hlt : k < us.length
    · obtain ⟨hcell, hx100⟩ := HC.out k hlt
      have hmem : Hid (us.getD k 0 ∈ us) := by rw [List.getD_eq_getElem?_getD, List.getElem?_eq_getElem hlt]; exact List.getElem_mem hlt
      clear HC
      generalize hx : us.getD k 0 = x at hcell hmem hx100
      have HX : Hid _ := hx
      clear hx
      by_cases hv : x = want
      · subst hv
        go_wp2
        refine ⟨⟨k + 1, by omega, by go_num, fun q hq => ?_⟩, by simp [intOf]; omega⟩
        by_cases e : q = k
        · rw [e]; exact HX.out
        · exact HQ.out q (by omega)
      · have hv' : ¬ ((x : Int) = (want : Int)) := by omega
        have hv2 : ((x : Int) == (want : Int)) = false := by simpa using hv'
        have HV : Hid _ := hv
        clear hv
        go_wp2
        go_ret
        refine ⟨ret_int ?_, rfl⟩
        unfold ifAllK
        rw [if_neg (fun e => HV.out (by simpa using List.all_eq_true.1 e x hmem.out))]; rfl
    · go_wp2
      go_ret
      refine ⟨ret_int ?_, rfl⟩
      unfold ifAllK
      rw [if_pos]
      rw [List.all_eq_true]
      intro x hx
      obtain ⟨j, hj, rfl⟩ := List.mem_iff_getElem.1 hx
      have := HQ.out j (by omega)
      rw [List.getD_eq_getElem?_getD, List.getElem?_eq_getElem hj] at this
      simpa using this
set_option maxHeartbeats 2000000 in
theorem tyIndex_any (ks : List Nat) (v : Nat) (b cap : Nat) (w : World) (hl : ks.length ≤ 100)
    (hc : ∀ j, j < ks.length → w.cell? ⟨b, j, none⟩ = some (.int .i64 (ks.getD j 0))) :
    Calls Tryz.prog 217 #[.slice (some ⟨b, 0, none⟩) ks.length cap, .int .i64 v] w fun e w' => (∃ r : Int, e = .returned (.int .i64 r) ∧ -1 ≤ r ∧ r ≤ 1000 ∧ (decide (0 ≤ r) = ks.contains v)) ∧ w' = w := by
  have HC : Hid _ := hc
  clear hc
  go_enter Tryz.func217, Tryz.ntmps217
  go_wp2
  go_loop [8] (fun i => ∃ k : Nat, k ≤ ks.length ∧ i = .int .i64 k ∧ Hid (∀ q, q < k → ks.getD q 0 ≠ v)) (fun i => ks.length - (intOf i).toNat)
  case atStart => exact ⟨0, Nat.zero_le _, rfl, fun q hq => by omega⟩
  case round =>
    obtain ⟨k, hk, rfl, HQ⟩ := hrel
    by_cases hlt : k < ks.length
    · have hcell := HC.out k hlt
      have hmem : Hid (ks.getD k 0 ∈ ks) := by rw [List.getD_eq_getElem?_getD, List.getElem?_eq_getElem hlt]; exact List.getElem_mem hlt
      generalize hx : ks.getD k 0 = x at hcell hmem
      have HX : Hid _ := hx
      clear hx
      by_cases hv : v = x
      · subst hv
        go_wp2
        go_ret
        refine ⟨⟨k, rfl, by omega, by omega, ?_⟩, rfl⟩
        simp [hmem.out]
      · have hv' : ¬ ((v : Int) = (x : Int)) := by omega
        have hv2 : ((v : Int) == (x : Int)) = false := by simpa using hv'
        have HV : Hid _ := hv
        clear hv
        go_wp2
        refine ⟨⟨k + 1, by omega, by go_num, fun q hq => ?_⟩, by simp [intOf]; omega⟩
        by_cases e : q = k
        · rw [e, HX.out]; exact fun e => HV.out e.symm
        · exact HQ.out q (by omega)
    · go_wp2
      go_ret
      refine ⟨⟨-1, rfl, by omega, by omega, ?_⟩, rfl⟩
      have hno : v ∉ ks := fun e => by
        obtain ⟨j, hj, hj2⟩ := List.mem_iff_getElem.1 e
        exact HQ.out j (by omega) (by rw [List.getD_eq_getElem?_getD, List.getElem?_eq_getElem hj]; exact hj2)
      simp [hno]
set_option maxHeartbeats 1000000 in
theorem tyContains_any (ks : List Nat) (v : Nat) (b cap : Nat) (w : World) (hl : ks.length ≤ 100)
    (hc : ∀ j, j < ks.length → w.cell? ⟨b, j, none⟩ = some (.int .i64 (ks.getD j 0))) :
    Calls Tryz.prog 155 #[.slice (some ⟨b, 0, none⟩) ks.length cap, .int .i64 v] w fun e w' => e = .returned (.bool (ks.contains v)) ∧ w' = w := by
  have HI := tyIndex_any ks v b cap w hl hc
  clear hc
  go_enter Tryz.func155, Tryz.ntmps155
  go_wp2_with fail
  refine HI.mono ?_
  rintro e w' ⟨⟨r, rfl, h1, h2, h3⟩, rfl⟩
  have H3 : Hid _ := h3
  clear HI h3
  go_wp2_with fail
  go_ret
  exact ⟨ret_bool H3.out, rfl⟩
end Go.Proofs.YtfkdailfcmnjlaaGreatDoor

namespace Go.Proofs.YtfkdailfcmnjlaaGreatDoor
open Go Go.RowKit
set_option maxRecDepth 100000
attribute [local go_sem ↓] Go.wp_at_zero Go.wp_at_succ
variable {bs : Nat}

set_option maxHeartbeats 2000000 in
theorem typeOver_any (k : Nat) (us : List Nat) (g : Nat) (w : World) (hl : us.length ≤ 3) (hl0 : 0 < us.length)
    (hk : k = 6 ∨ k = 7 ∨ k = 9 ∨ k = 10 ∨ k = 17 ∨ k = 18 ∨ k = 19 ∨ k = 8 ∨ k = 14) (h8 : k = 8 → True) (h14 : k = 14 → us.length = 3)
    (hc : ∀ j, j < us.length → w.cell? ⟨g, j, none⟩ = some (.int .i64 (us.getD j 0)) ∧ us.getD j 0 ≤ 100) :
    Calls Tryz.prog 156 #[.int .i64 k, .slice (some ⟨g, 0, none⟩) us.length us.length] w fun e w' => e = .returned (.int .i64 (overK k us)) ∧ Below w.heap.size w w' := by
  rcases hk with hk | hk | hk | hk | hk | hk | hk | hk | hk
  · subst hk
    have HI := ifAll_any us g 0 us.length 1 1 w (by omega) (by omega) (by simpa using hc)
    have HO : Hid (overK 6 us = ifAllK us 1 1) := rfl
    clear hc h8 h14
    generalize overK 6 us = r at *
    go_enter Tryz.func156, Tryz.ntmps156
    go_wp2_with fail
    refine HI.mono ?_
    rintro e w' ⟨rfl, rfl⟩
    clear HI
    go_wp2_with fail
    go_ret
    exact ⟨ret_int (by rw [HO.out]), Below.refl _ _⟩
  · subst hk
    have HI := ifAll_any us g 0 us.length 1 1 w (by omega) (by omega) (by simpa using hc)
    have HO : Hid (overK 7 us = ifAllK us 1 1) := rfl
    clear hc h8 h14
    generalize overK 7 us = r at *
    go_enter Tryz.func156, Tryz.ntmps156
    go_wp2_with fail
    refine HI.mono ?_
    rintro e w' ⟨rfl, rfl⟩
    clear HI
    go_wp2_with fail
    go_ret
    exact ⟨ret_int (by rw [HO.out]), Below.refl _ _⟩
  · subst hk
    have HI := ifAll_any us g 0 us.length 1 2 w (by omega) (by omega) (by simpa using hc)
    have HO : Hid (overK 9 us = ifAllK us 1 2) := rfl
    clear hc h8 h14
    generalize overK 9 us = r at *
    go_enter Tryz.func156, Tryz.ntmps156
    go_wp2_with fail
    refine HI.mono ?_
    rintro e w' ⟨rfl, rfl⟩
    clear HI
    go_wp2_with fail
    go_ret
    exact ⟨ret_int (by rw [HO.out]), Below.refl _ _⟩
  · subst hk
    have HI := ifAll_any us g 0 us.length 1 2 w (by omega) (by omega) (by simpa using hc)
    have HO : Hid (overK 10 us = ifAllK us 1 2) := rfl
    clear hc h8 h14
    generalize overK 10 us = r at *
    go_enter Tryz.func156, Tryz.ntmps156
    go_wp2_with fail
    refine HI.mono ?_
    rintro e w' ⟨rfl, rfl⟩
    clear HI
    go_wp2_with fail
    go_ret
    exact ⟨ret_int (by rw [HO.out]), Below.refl _ _⟩
  · subst hk
    have HI := ifAll_any us g 0 us.length 2 2 w (by omega) (by omega) (by simpa using hc)
    have HO : Hid (overK 17 us = ifAllK us 2 2) := rfl
    clear hc h8 h14
    generalize overK 17 us = r at *
    go_enter Tryz.func156, Tryz.ntmps156
    go_wp2_with fail
    refine HI.mono ?_
    rintro e w' ⟨rfl, rfl⟩
    clear HI
    go_wp2_with fail
    go_ret
    exact ⟨ret_int (by rw [HO.out]), Below.refl _ _⟩
  · subst hk
    have HI := ifAll_any us g 0 us.length 2 2 w (by omega) (by omega) (by simpa using hc)
    have HO : Hid (overK 18 us = ifAllK us 2 2) := rfl
    clear hc h8 h14
    generalize overK 18 us = r at *
    go_enter Tryz.func156, Tryz.ntmps156
    go_wp2_with fail
    refine HI.mono ?_
    rintro e w' ⟨rfl, rfl⟩
    clear HI
    go_wp2_with fail
    go_ret
    exact ⟨ret_int (by rw [HO.out]), Below.refl _ _⟩
  · subst hk
    have HI := ifAll_any us g 0 us.length 2 2 w (by omega) (by omega) (by simpa using hc)
    have HO : Hid (overK 19 us = ifAllK us 2 2) := rfl
    clear hc h8 h14
    generalize overK 19 us = r at *
    go_enter Tryz.func156, Tryz.ntmps156
    go_wp2_with fail
    refine HI.mono ?_
    rintro e w' ⟨rfl, rfl⟩
    clear HI
    go_wp2_with fail
    go_ret
    exact ⟨ret_int (by rw [HO.out]), Below.refl _ _⟩
  · subst hk
    obtain ⟨hc0, hb0⟩ := hc 0 hl0
    have HI := ifAll_any us g 0 us.length (us.getD 0 0) 2 w (by omega) hb0 (by simpa using hc)
    have HO : Hid (overK 8 us = ifAllK us (us.getD 0 0) 2) := rfl
    clear hc h8 h14
    generalize overK 8 us = r at *
    generalize us.getD 0 0 = u0 at *
    go_enter Tryz.func156, Tryz.ntmps156
    go_wp2_with fail
    refine HI.mono ?_
    rintro e w' ⟨rfl, rfl⟩
    clear HI
    go_wp2_with fail
    go_ret
    exact ⟨ret_int (by rw [HO.out]), Below.refl _ _⟩
  · subst hk
    have h3 := h14 rfl
    obtain ⟨hc0, hb0⟩ := hc 0 hl0
    obtain ⟨hc1, hb1⟩ := hc 1 (by omega)
    have HI := ifAll_any (us.drop 1) g 1 (us.length - 1) (us.getD 1 0) (us.getD 1 0) w.drew (by simp; omega) hb1 (fun j hj => by
      have := hc (1 + j) (by simp at hj; omega)
      rw [show (us.drop 1).getD j 0 = us.getD (1 + j) 0 from by simp [List.getD_eq_getElem?_getD, Nat.add_comm]]
      exact this)
    rw [show (us.drop 1).length = us.length - 1 from by simp] at HI
    have HO : Hid (overK 14 us = if us.getD 0 0 = 2 then ifAllK (us.drop 1) (us.getD 1 0) (us.getD 1 0) else 0) := rfl
    clear hc h8 h14
    generalize overK 14 us = r at *
    generalize us.getD 0 0 = u0 at *
    generalize us.getD 1 0 = u1 at *
    generalize us.drop 1 = ur at *
    rw [h3] at HI
    rw [h3]
    by_cases h2 : u0 = 2
    · subst h2
      go_enter Tryz.func156, Tryz.ntmps156
      go_wp2_with fail
      go_region_held3 (fun w' => w'.cell? ⟨g, 1, none⟩ = some (.int .i64 u1)) (first | exact hc1 | go_keep) ((refine HI.mono ?_; rintro e w' ⟨rfl, rfl⟩))
      go_wp2_with fail
      go_ret
      exact ⟨ret_int (by rw [HO.out]; simp), (Below.refl _ _).drew⟩
    · have hv2 : ((u0 : Int) == (2 : Int)) = false := by
        have : ¬ ((u0 : Int) = 2) := by omega
        simpa using this
      have H2 : Hid _ := h2
      clear h2 HI
      go_enter Tryz.func156, Tryz.ntmps156
      go_wp2_with fail
      go_ret
      exact ⟨ret_int (by rw [HO.out, if_neg H2.out]; rfl), Below.refl _ _⟩
end Go.Proofs.YtfkdailfcmnjlaaGreatDoor
