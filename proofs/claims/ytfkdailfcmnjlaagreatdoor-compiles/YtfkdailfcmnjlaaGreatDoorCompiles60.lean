/-
  Every Compile of the program is as the document says. Every Compile of the program is as the document says: the law.
-/
import Derived.Test.YtfkdailfcmnjlaaGreatDoorCompiles01
import Derived.Test.YtfkdailfcmnjlaaGreatDoorCompiles02
import Derived.Test.YtfkdailfcmnjlaaGreatDoorCompiles03
import Derived.Test.YtfkdailfcmnjlaaGreatDoorCompiles04
import Derived.Test.YtfkdailfcmnjlaaGreatDoorCompiles05
import Derived.Test.YtfkdailfcmnjlaaGreatDoorCompiles06
import Derived.Test.YtfkdailfcmnjlaaGreatDoorCompiles07
import Derived.Test.YtfkdailfcmnjlaaGreatDoorCompiles08
import Derived.Test.YtfkdailfcmnjlaaGreatDoorCompiles09
import Derived.Test.YtfkdailfcmnjlaaGreatDoorCompiles10
import Derived.Test.YtfkdailfcmnjlaaGreatDoorCompiles11
import Derived.Test.YtfkdailfcmnjlaaGreatDoorCompiles12
import Derived.Test.YtfkdailfcmnjlaaGreatDoorCompiles13
import Derived.Test.YtfkdailfcmnjlaaGreatDoorCompiles14
import Derived.Test.YtfkdailfcmnjlaaGreatDoorCompiles15
import Derived.Test.YtfkdailfcmnjlaaGreatDoorCompiles16
import Derived.Test.YtfkdailfcmnjlaaGreatDoorCompiles17
import Derived.Test.YtfkdailfcmnjlaaGreatDoorCompiles18
import Derived.Test.YtfkdailfcmnjlaaGreatDoorCompiles19
import Derived.Test.YtfkdailfcmnjlaaGreatDoorCompiles20
import Derived.Test.YtfkdailfcmnjlaaGreatDoorCompiles21
import Derived.Test.YtfkdailfcmnjlaaGreatDoorCompiles22
import Derived.Test.YtfkdailfcmnjlaaGreatDoorCompiles23
import Derived.Test.YtfkdailfcmnjlaaGreatDoorCompiles24
import Derived.Test.YtfkdailfcmnjlaaGreatDoorCompiles25
import Derived.Test.YtfkdailfcmnjlaaGreatDoorCompiles26
import Derived.Test.YtfkdailfcmnjlaaGreatDoorCompiles27
import Derived.Test.YtfkdailfcmnjlaaGreatDoorCompiles28
import Derived.Test.YtfkdailfcmnjlaaGreatDoorCompiles29
import Derived.Test.YtfkdailfcmnjlaaGreatDoorCompiles30
import Derived.Test.YtfkdailfcmnjlaaGreatDoorCompiles31
import Derived.Test.YtfkdailfcmnjlaaGreatDoorCompiles32
import Derived.Test.YtfkdailfcmnjlaaGreatDoorCompiles33
import Derived.Test.YtfkdailfcmnjlaaGreatDoorCompiles34
import Derived.Test.YtfkdailfcmnjlaaGreatDoorCompiles35
import Derived.Test.YtfkdailfcmnjlaaGreatDoorCompiles36
import Derived.Test.YtfkdailfcmnjlaaGreatDoorCompiles37
import Derived.Test.YtfkdailfcmnjlaaGreatDoorCompiles38
import Derived.Test.YtfkdailfcmnjlaaGreatDoorCompiles39
import Derived.Test.YtfkdailfcmnjlaaGreatDoorCompiles40
import Derived.Test.YtfkdailfcmnjlaaGreatDoorCompiles41
import Derived.Test.YtfkdailfcmnjlaaGreatDoorCompiles42
import Derived.Test.YtfkdailfcmnjlaaGreatDoorCompiles43
import Derived.Test.YtfkdailfcmnjlaaGreatDoorCompiles44
import Derived.Test.YtfkdailfcmnjlaaGreatDoorCompiles45
import Derived.Test.YtfkdailfcmnjlaaGreatDoorCompiles46
import Derived.Test.YtfkdailfcmnjlaaGreatDoorCompiles47
import Derived.Test.YtfkdailfcmnjlaaGreatDoorCompiles48
import Derived.Test.YtfkdailfcmnjlaaGreatDoorCompiles49
import Derived.Test.YtfkdailfcmnjlaaGreatDoorCompiles50
import Derived.Test.YtfkdailfcmnjlaaGreatDoorCompiles51
import Derived.Test.YtfkdailfcmnjlaaGreatDoorCompiles52
import Derived.Test.YtfkdailfcmnjlaaGreatDoorCompiles53
import Derived.Test.YtfkdailfcmnjlaaGreatDoorCompiles54
import Derived.Test.YtfkdailfcmnjlaaGreatDoorCompiles55
import Derived.Test.YtfkdailfcmnjlaaGreatDoorCompiles56
import Derived.Test.YtfkdailfcmnjlaaGreatDoorCompiles57
import Derived.Test.YtfkdailfcmnjlaaGreatDoorCompiles58
import Derived.Test.YtfkdailfcmnjlaaGreatDoorCompiles59
import Derived.Test.YtfkdailfcmnjlaaGreatDoorLays
import Derived.Test.YtfkdailfcmnjlaaGreatDoorLays2
import Derived.WalkKit
import Derived.Deep.QuietTactic
import Derived.BigQuiet
import Derived.WalkSpells
import GoSem.Op.String
import Derived.Deep.AppendLies
import Derived.Deep.RegionHeld3
import Derived.Deep.DrawnRows
import Derived.Deep.RegionHeldLaw
import Derived.Deep.RegionLaw
import Derived.Lib.ParseIntBCases
import Derived.Deep.OwnRows
import Derived.Lib.LaidTab
import Derived.Lib.AppendIntMem
import Derived.Shelf.Strings.Builder1
import Derived.Laws.CopyOwn
import Derived.Deep.DeepCutAuto
import Derived.WalkSmall
import Derived.Lib.AppendZerosOnto
import Derived.Deep.Upon
import Derived.Deep.MidRow
import Derived.Shelf.SlicesQ.Reverse
import Derived.Ground.SlgnProg
import Derived.Lib.SliceRun
import Derived.Shelf.Abstract
import Derived.Deep.CutBlock
set_option linter.unusedVariables false
set_option linter.unusedSimpArgs false
namespace Go.Proofs.YtfkdailfcmnjlaaGreatDoor
open Go Go.RowKit
set_option maxRecDepth 100000
attribute [local go_sem ↓] Go.wp_at_zero Go.wp_at_succ

set_option maxHeartbeats 2000000 in
/-- How many parts and items. -/
theorem rparts_any (l : List UInt8) (w : World) (hm : l.length ≤ maxLen) (h0 : (readOf l).1.1 = 0) : Calls Tryz.prog 24 #[S l] w fun e w' => e = .returned (.tuple #[.int .i64 (readOf l).2.1.length, .int .i64 (readOf l).2.2.length]) ∧ Below w.heap.size w w' := by
  have HR := (read_any l w hm).mono fun e w' (h : ReadAns _ _ _ _ _ e w') => (show Below w.heap.size w w' ∧ ∃ a c a' c', e = .returned (.tuple #[.agg #[.slice a (readOf l).2.2.length c, .slice a' (readOf l).2.1.length c'], .int .i64 (readOf l).1.1, .int .i64 (readOf l).1.2]) from by
    obtain ⟨hb, iv, pv, rfl, ⟨a, b, c, rfl⟩, ⟨a', b', c', rfl⟩, _, h2⟩ := h
    obtain ⟨hI, ps, hrow, _, _, _, hps⟩ := h2 h0
    have e1 : b = (readOf l).2.2.length := by
      rcases hI.form with ⟨e, h⟩ | ⟨g, c1, e⟩
      · simp only [Value.slice.injEq] at e; omega
      · simp only [Value.slice.injEq] at e; exact e.2.1
    have e2 : b' = (readOf l).2.1.length := by
      obtain ⟨q, cap, e⟩ := rowSl hrow
      simp only [Value.slice.injEq] at e
      rw [e.2.1, ← hps, List.length_map]
    rw [e1, e2]
    exact ⟨hb, a, c, a', c', rfl⟩)
  generalize (readOf l).1.1 = n at *
  generalize (readOf l).1.2 = k at *
  generalize (readOf l).2.1.length = L at *
  generalize (readOf l).2.2.length = xs at *
  go_enter Tryz.func24, Tryz.ntmps24
  go_wp2_with fail
  refine HR.mono ?_
  rintro e w1 ⟨hb, a, c, a', c', rfl⟩
  have HB : Hid _ := hb
  clear HR hb h0
  go_wp2_with fail
  go_region
  go_wp2_with fail
  refine bodyPost_ret (v := .tuple #[.int .i64 L, .int .i64 xs]) (by simp [results, Tryz.results24, go_sem]) rfl ?_
  exact ⟨rfl, (HB.out.alloc HB.out.size _).drew⟩
/-- What is handed in lies boxed. -/
structure EvSt (w W : World) (e : Ev) (s : Stt) (lv mv : Value) : Prop where
  bel : Below w.heap.size w W
  ev : W.heap[w.heap.size]? = some (.cells #[S e.sender, S e.target, .int .i64 e.wants, .int .i64 e.need, .int .i64 e.when_] 46 (0, 0))
  st : W.heap[w.heap.size + 1]? = some (.cells #[lv, .int .i64 s.dflt, mv, .bool s.open_] 50 (0, 0))
theorem EvSt.start (w : World) (e : Ev) (s : Stt) (lv mv : Value) : EvSt w ((w.alloc (.cells #[S e.sender, S e.target, .int .i64 e.wants, .int .i64 e.need, .int .i64 e.when_] 46 (0, 0))).alloc (.cells #[lv, .int .i64 s.dflt, mv, .bool s.open_] 50 (0, 0))) e s lv mv :=
  ⟨((Below.refl _ _).alloc (Nat.le_refl _) _).alloc (by simp) _, by rw [Below.heap_alloc _ _ _ (by simp)]; exact heap_alloc_new w _, by have q := heap_alloc_new (w.alloc (.cells #[S e.sender, S e.target, .int .i64 e.wants, .int .i64 e.need, .int .i64 e.when_] 46 (0, 0))) (.cells #[lv, .int .i64 s.dflt, mv, .bool s.open_] 50 (0, 0)); rw [World.size_alloc] at q; exact q⟩
theorem EvSt.below {w W W' : World} {e : Ev} {s : Stt} {lv mv : Value} (h : EvSt w W e s lv mv) (hb : Below W.heap.size W W') : EvSt w W' e s lv mv :=
  ⟨h.bel.trans (hb.mono h.bel.size), (hb.block _ (lt_of_get h.ev)).trans h.ev, (hb.block _ (lt_of_get h.st)).trans h.st⟩
theorem EvSt.cells {w W : World} {e : Ev} {s : Stt} {lv mv : Value} (h : EvSt w W e s lv mv) : (W.cell? ⟨w.heap.size, 0, none⟩ = some (S e.sender) ∧ W.cell? ⟨w.heap.size, 1, none⟩ = some (S e.target) ∧ W.cell? ⟨w.heap.size, 2, none⟩ = some (.int .i64 e.wants) ∧ W.cell? ⟨w.heap.size, 3, none⟩ = some (.int .i64 e.need) ∧ W.cell? ⟨w.heap.size, 4, none⟩ = some (.int .i64 e.when_)) ∧
    (W.cell? ⟨w.heap.size + 1, 0, none⟩ = some lv ∧ W.cell? ⟨w.heap.size + 1, 1, none⟩ = some (.int .i64 s.dflt) ∧ W.cell? ⟨w.heap.size + 1, 2, none⟩ = some mv ∧ W.cell? ⟨w.heap.size + 1, 3, none⟩ = some (.bool s.open_)) ∧ w.heap.size < W.heap.size ∧ w.heap.size + 1 < W.heap.size ∧ w.heap.size ≠ W.heap.size ∧ W.heap.size ≠ w.heap.size ∧ w.heap.size + 1 ≠ W.heap.size ∧ W.heap.size ≠ w.heap.size + 1 := by
  have h1 := lt_of_get h.ev
  have h2 := lt_of_get h.st
  exact ⟨⟨cell_of_row W _ 0 _ _ _ h.ev, cell_of_row W _ 1 _ _ _ h.ev, cell_of_row W _ 2 _ _ _ h.ev, cell_of_row W _ 3 _ _ _ h.ev, cell_of_row W _ 4 _ _ _ h.ev⟩, ⟨cell_of_row W _ 0 _ _ _ h.st, cell_of_row W _ 1 _ _ _ h.st, cell_of_row W _ 2 _ _ _ h.st, cell_of_row W _ 3 _ _ _ h.st⟩, h1, h2, by omega, by omega, by omega, by omega⟩
end Go.Proofs.YtfkdailfcmnjlaaGreatDoor

namespace Go.Proofs.YtfkdailfcmnjlaaGreatDoor
open Go Go.RowKit
set_option maxRecDepth 100000
attribute [local go_sem ↓] Go.wp_at_zero Go.wp_at_succ

set_option maxHeartbeats 8000000 in
theorem compiles_no {lv mv : Value} (l : List UInt8) (n : Int) (e : Ev) (s : Stt) (w : World) (hW : Wd w) (hm : l.length ≤ maxLen) (hol : lv.oneCell' = true) (hom : mv.oneCell' = true) (h0 : ¬ (readOf l).1.1 = 0) :
    Calls Tryz.prog 8 #[S l, .int .i64 n, evV e, sttV lv mv s] w fun en w' => en = .returned (.bool true) ∧ Below w.heap.size w w' := by
  have hb := read_bound l
  have HN := fun w => num_any (readOf l).1.1 hb w
  have W1 := fun W (h : Below w.heap.size w W) => gcompile_any l n W (Wd.below hW h) hm
  have W2 := fun W => check_ref l W hm
  have ec : codeOf l n = [] := by unfold codeOf; rw [if_neg h0]
  rw [ec] at W1
  have H0 : Hid _ := EvSt.start w e s lv mv
  clear hW hm ec
  generalize (readOf l).1.1 = x at *
  generalize (readOf l).1.2 = k at *
  unfold evV sttV at *
  obtain ⟨sn, tg, wa, nd, wh⟩ := e
  obtain ⟨ls, df, ms, op⟩ := s
  simp only [] at *
  have e1 : ((x : Int) == 0) = false := by
    have : ¬ (x : Int) = 0 := by omega
    simpa using this
  have e2 : ((x : Int) != 0) = true := by
    have : ¬ (x : Int) = 0 := by omega
    simpa using this
  go_enter Tryz.func8, Tryz.ntmps8
  go_wp2_with fail
  have h0' := H0.out
  generalize ((w.alloc (.cells #[S sn, S tg, .int .i64 wa, .int .i64 nd, .int .i64 wh] 46 (0, 0))).alloc (.cells #[lv, .int .i64 df, mv, .bool op] 50 (0, 0))) = wz at *
  refine (W1 wz h0'.bel).mono ?_
  rintro en w1 ⟨rfl, hb1⟩
  have HB1 : Hid _ := h0'.bel.trans (hb1.mono h0'.bel.size)
  clear W1 hb1 h0' H0
  go_wp2_with fail
  refine (W2 w1).mono ?_
  rintro en w2 ⟨rfl, hb2⟩
  have HB2 : Hid _ := HB1.out.trans (hb2.mono HB1.out.size)
  clear W2 hb2 HB1
  go_wp2_with fail
  refine (HN w2).mono ?_
  rintro en w3 ⟨rfl, rfl⟩
  clear HN
  go_wp2_with fail
  go_ret
  exact ⟨rfl, HB2.out⟩
set_option maxHeartbeats 16000000 in
theorem compiles_ok {lv mv : Value} (l : List UInt8) (n : Int) (e : Ev) (s : Stt) (w : World) (hW : Wd w) (hE : Ef w) (hm : l.length ≤ maxLen) (h1 : PairsAt lv s.levels w) (h2 : PairsAt mv s.members w) (hl1 : s.levels.length ≤ 5900000000000) (hl2 : s.members.length ≤ 5900000000000) (hw : In64 e.wants) (hF : FieldsOK (fieldsL e s)) (h0 : (readOf l).1.1 = 0) :
    Calls Tryz.prog 8 #[S l, .int .i64 n, evV e, sttV lv mv s] w fun en w' => en = .returned (.bool true) ∧ Below w.heap.size w w' := by
  have HN := fun w => num_any 0 (by decide) w
  have W1 := fun W (h : Below w.heap.size w W) => gcompile_any l n W (Wd.below hW h) hm
  have W2 := fun W => check_ref l W hm
  have hol : lv.oneCell' = true := by obtain ⟨_, a, c, rfl, _⟩ := h1; rfl
  have hom : mv.oneCell' = true := by obtain ⟨_, a, c, rfl, _⟩ := h2; rfl
  obtain ⟨ins, hld, hlen, hjd⟩ := code_says l n h0
  obtain ⟨St, hj⟩ := hjd _ hF
  have hfw := (pol_t (mean_known l h0) (many_known l h0)).few
  have W3 := fun W => rparts_any l W hm h0
  have W4 := fun W => rload_any (codeOf l n) W
  unfold RLoadAns at W4
  rw [hld] at W4
  simp only [] at W4
  have W5 := fun (W : World) (rp : Nat) (h : Below w.heap.size w W) (hrp : W.heap[rp]? = some (.cells #[S (codeOf l n)] 130 (0, 0))) => rjudge_any (w := W) e s hld hrp (h1.below h) (h2.below h) hw (fields_t hF) hj
  have W6 := fun W (h : Below w.heap.size w W) => mean_ref l e s W hm (h1.below h) (h2.below h) hw hF
  have W7 := fun W => print_ref l W hm
  have W8 : (textOf l).length ≤ 1000 → ∀ W, Below w.heap.size w W → Calls Tryz.prog 23 #[S (textOf l), .int .i64 (bits .and .i64 n 15)] W fun e w' => e = .returned (.tuple #[S (codeOf l n), .int .i64 ((0 : Nat) : Int), .int .i64 ((0 : Nat) : Int)]) ∧ Below W.heap.size W w' := fun hp W h => by
    have q := gcompile_any (textOf l) (bits .and .i64 n 15) W (Wd.below hW h) (by unfold maxLen; omega)
    rw [code15, code_again l n h0 hp, (text_again l h0 hp).1] at q
    exact q
  have W9 := fun W (h : Below w.heap.size w W) => judges_any (codeOf l n) e s W (hE.below hE.pos h) (h1.below h) (h2.below h) hl1 hl2 hw (fields_t hF)
  have hz := read_zero l h0
  rw [h0, hz] at W1 W2
  rw [h0] at W6
  rw [h0, hz] at W7
  have H0 : Hid _ := EvSt.start w e s lv mv
  have HVV : Hid (verV = fun r => .agg #[.bool r.1, .int .i64 r.2, .int .i64 0]) := rfl
  have HVD : Hid (verdV = fun a r s => .agg #[.bool a, .int .i64 r, .int .i64 s]) := rfl
  rw [HVV.out] at W6
  rw [HVD.out] at W5
  clear hW hm h1 h2 hw hF hE hjd hj hld h0 hz
  generalize meanOf l (fieldsL e s) = r at *
  obtain ⟨ra, rn⟩ := r
  simp only [] at W5 W6
  generalize codeOf l n = b at *
  generalize textOf l = p at *
  generalize (readOf l).2.1.length = pl at *
  generalize (readOf l).2.2.length = il at *
  unfold evV sttV at *
  obtain ⟨sn, tg, wa, nd, wh⟩ := e
  obtain ⟨ls, df, ms, op⟩ := s
  simp only [] at *
  have x1 : IntKind.i64.wrap (24 * (pl : Int)) = 24 * (pl : Int) := by rw [IntKind.wrap_i64]; omega
  have x2 : IntKind.i64.wrap (16 * (il : Int)) = 16 * (il : Int) := by rw [IntKind.wrap_i64]; omega
  have x3 : IntKind.i64.wrap (24 * (pl : Int) + 16 * (il : Int)) = 24 * (pl : Int) + 16 * (il : Int) := by rw [IntKind.wrap_i64]; omega
  have x4 : IntKind.i64.wrap (24 * (pl : Int) + 16 * (il : Int) + 32) = 24 * (pl : Int) + 16 * (il : Int) + 32 := by rw [IntKind.wrap_i64]; omega
  have x5 : (b.length : Int) ≤ 24 * (pl : Int) + 16 * (il : Int) + 32 := by omega
  clear hlen hfw
  go_enter Tryz.func8, Tryz.ntmps8
  go_wp2_with fail
  have s0 := H0.out
  generalize ((w.alloc (.cells #[S sn, S tg, .int .i64 wa, .int .i64 nd, .int .i64 wh] 46 (0, 0))).alloc (.cells #[lv, .int .i64 df, mv, .bool op] 50 (0, 0))) = wz at *
  refine (W1 wz s0.bel).mono ?_
  rintro en w1 ⟨rfl, hb1⟩
  have S1 : Hid _ := s0.below hb1
  clear W1 hb1 s0 H0
  go_wp2_with fail
  refine (W2 w1).mono ?_
  rintro en w2 ⟨rfl, hb2⟩
  have S2 : Hid _ := S1.out.below hb2
  clear W2 hb2 S1
  go_wp2_with fail
  refine (HN w2).mono ?_
  rintro en w3 ⟨rfl, rfl⟩
  clear HN
  go_wp2_with fail
  refine (W3 _).mono ?_
  rintro en w3 ⟨rfl, hb3⟩
  have S3 : Hid _ := S2.out.below hb3
  clear W3 hb3 S2
  go_wp2_with fail
  refine (W4 _).mono ?_
  rintro en w4 ⟨⟨rp, hrl, rfl, hrp⟩, hb4⟩
  have S4 : Hid _ := S3.out.below hb4
  have V5 := W5 w4 rp S4.out.bel hrp
  clear W4 hb4 S3 W5 hrl hrp
  obtain ⟨⟨c0, c1, c2, c3, c4⟩, ⟨d0, d1, d2, d3⟩, k1, k2, k3, k4, k5, k6⟩ := S4.out.cells
  go_wp2_with fail
  refine V5.mono ?_
  rintro en w5 ⟨rfl, hb5⟩
  clear V5 c0 c1 c2 c3 c4 d0 d1 d2 d3 k1 k2 k3 k4 k5 k6
  have S5 : Hid _ := S4.out.below hb5
  obtain ⟨⟨c0, c1, c2, c3, c4⟩, ⟨d0, d1, d2, d3⟩, k1, k2, k3, k4, k5, k6⟩ := S5.out.cells
  clear hb5 S4
  have hbM : Below w5.heap.size w5 (w5.alloc (.cells #[.bool ra, .int .i64 rn, .int .i64 St] 40 (0, 0))) := (Below.refl _ _).alloc (Nat.le_refl _) _
  have S6 : Hid _ := And.intro (S5.out.below hbM) (heap_alloc_new w5 (.cells #[.bool ra, .int .i64 rn, .int .i64 St] 40 (0, 0)))
  clear S5 hbM
  go_wp2_with fail
  obtain ⟨s6, v6⟩ := S6.out
  clear S6 c0 c1 c2 c3 c4 d0 d1 d2 d3 k1 k2 k3 k4 k5 k6
  generalize hbv : w5.heap.size = bv at *
  clear hbv
  generalize (w5.alloc (.cells #[.bool ra, .int .i64 rn, .int .i64 St] 40 (0, 0))) = w6 at *
  refine (W6 w6 s6.bel).mono ?_
  rintro en w7 ⟨rfl, hb7⟩
  have s7 := s6.below hb7
  have v7 := (hb7.block _ (lt_of_get v6)).trans v6
  clear W6 hb7 s6 v6
  have hbM : Below w7.heap.size w7 (w7.alloc (.cells #[.bool ra, .int .i64 rn, .int .i64 0] 40 (0, 0))) := (Below.refl _ _).alloc (Nat.le_refl _) _
  have S8 : Hid _ := And.intro (s7.below hbM) (And.intro ((hbM.block _ (lt_of_get v7)).trans v7) (heap_alloc_new w7 (.cells #[.bool ra, .int .i64 rn, .int .i64 0] 40 (0, 0))))
  clear s7 v7 hbM
  go_wp2_with fail
  obtain ⟨s8, v8, u8⟩ := S8.out
  clear S8
  generalize hbu : w7.heap.size = bu at *
  clear hbu
  generalize (w7.alloc (.cells #[.bool ra, .int .i64 rn, .int .i64 0] 40 (0, 0))) = w8 at *
  refine (W7 w8).mono ?_
  rintro en w9 ⟨rfl, hb9⟩
  have s9 := s8.below hb9
  have v9 := (hb9.block _ (lt_of_get v8)).trans v8
  have u9 := (hb9.block _ (lt_of_get u8)).trans u8
  clear W7 hb9 s8 v8 u8
  by_cases hp : p.length ≤ 1000
  · have V8 := W8 hp w9 s9.bel
    have hpi : (p.length : Int) ≤ 1000 := by omega
    have S9 : Hid _ := And.intro s9 (And.intro v9 u9)
    clear W8 s9 v9 u9 hp
    go_wp2_with fail
    refine V8.mono ?_
    rintro en w10 ⟨rfl, hb10⟩
    obtain ⟨s9, v9, u9⟩ := S9.out
    have s10 := s9.below hb10
    have v10 := (hb10.block _ (lt_of_get v9)).trans v9
    have u10 := (hb10.block _ (lt_of_get u9)).trans u9
    clear V8 hb10 S9 s9 v9 u9
    have V9 := W9 w10 s10.bel
    obtain ⟨⟨c0, c1, c2, c3, c4⟩, ⟨d0, d1, d2, d3⟩, k1, k2, k3, k4, k5, k6⟩ := s10.cells
    have S10 : Hid _ := And.intro s10 (And.intro v10 u10)
    clear W9 s10 v10 u10
    go_wp2_with fail
    refine V9.mono ?_
    rintro en w11 ⟨rfl, hb11⟩
    obtain ⟨s10, v10, u10⟩ := S10.out
    have v11 := (hb11.block _ (lt_of_get v10)).trans v10
    have u11 := (hb11.block _ (lt_of_get u10)).trans u10
    have HB : Hid _ := (s10.below hb11).bel
    obtain ⟨⟨y0, y1, y2⟩, yf⟩ := ver_cells v11
    obtain ⟨⟨z0, z1, z2⟩, zf⟩ := ver_cells u11
    clear V9 hb11 S10 s10 v10 u10 v11 u11 c0 c1 c2 c3 c4 d0 d1 d2 d3 k1 k2 k3 k4 k5 k6
    go_wp2_with fail
    go_ret
    exact ⟨rfl, HB.out⟩
  · have hpi : ¬ (p.length : Int) ≤ 1000 := by omega
    have V9 := W9 w9 s9.bel
    obtain ⟨⟨c0, c1, c2, c3, c4⟩, ⟨d0, d1, d2, d3⟩, k1, k2, k3, k4, k5, k6⟩ := s9.cells
    have S10 : Hid _ := And.intro s9 (And.intro v9 u9)
    clear W9 W8 s9 v9 u9 hp
    go_wp2_with fail
    refine V9.mono ?_
    rintro en w11 ⟨rfl, hb11⟩
    obtain ⟨s10, v10, u10⟩ := S10.out
    have v11 := (hb11.block _ (lt_of_get v10)).trans v10
    have u11 := (hb11.block _ (lt_of_get u10)).trans u10
    have HB : Hid _ := (s10.below hb11).bel
    obtain ⟨⟨y0, y1, y2⟩, yf⟩ := ver_cells v11
    obtain ⟨⟨z0, z1, z2⟩, zf⟩ := ver_cells u11
    clear V9 hb11 S10 s10 v10 u10 v11 u11 c0 c1 c2 c3 c4 d0 d1 d2 d3 k1 k2 k3 k4 k5 k6
    go_wp2_with fail
    go_ret
    exact ⟨rfl, HB.out⟩
theorem compiles_any {lv mv : Value} (l : List UInt8) (n : Int) (e : Ev) (s : Stt) (w : World) (hW : Wd w) (hE : Ef w) (hm : l.length ≤ maxLen) (h1 : PairsAt lv s.levels w) (h2 : PairsAt mv s.members w) (hl1 : s.levels.length ≤ 5900000000000) (hl2 : s.members.length ≤ 5900000000000) (hw : In64 e.wants) (hF : FieldsOK (fieldsL e s)) :
    Calls Tryz.prog 8 #[S l, .int .i64 n, evV e, sttV lv mv s] w fun en w' => en = .returned (.bool true) ∧ Below w.heap.size w w' := by
  by_cases h0 : (readOf l).1.1 = 0
  · exact compiles_ok l n e s w hW hE hm h1 h2 hl1 hl2 hw hF h0
  · exact compiles_no l n e s w hW hm (by obtain ⟨_, a, c, rfl, _⟩ := h1; rfl) (by obtain ⟨_, a, c, rfl, _⟩ := h2; rfl) h0
end Go.Proofs.YtfkdailfcmnjlaaGreatDoor
