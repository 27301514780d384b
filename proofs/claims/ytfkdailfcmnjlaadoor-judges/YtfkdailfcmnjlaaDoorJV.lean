/-
  What both judge of a code that both have. Every Load and every Judge of the program is the document's. The table of effects, laid. The arguments of the laws, opened: structs, and lists of pairs.
-/
import Derived.Test.YtfkdailfcmnjlaaDoorJA
import Derived.Test.YtfkdailfcmnjlaaDoorJB
import Derived.Test.YtfkdailfcmnjlaaDoorJC
import Derived.Test.YtfkdailfcmnjlaaDoorJD
import Derived.Test.YtfkdailfcmnjlaaDoorJE
import Derived.Test.YtfkdailfcmnjlaaDoorJF
import Derived.Test.YtfkdailfcmnjlaaDoorJG
import Derived.Test.YtfkdailfcmnjlaaDoorJH
import Derived.Test.YtfkdailfcmnjlaaDoorJI
import Derived.Test.YtfkdailfcmnjlaaDoorJJ
import Derived.Test.YtfkdailfcmnjlaaDoorJK
import Derived.Test.YtfkdailfcmnjlaaDoorJL
import Derived.Test.YtfkdailfcmnjlaaDoorJM
import Derived.Test.YtfkdailfcmnjlaaDoorJN
import Derived.Test.YtfkdailfcmnjlaaDoorJO
import Derived.Test.YtfkdailfcmnjlaaDoorJP
import Derived.Test.YtfkdailfcmnjlaaDoorJQ
import Derived.Test.YtfkdailfcmnjlaaDoorJR
import Derived.Test.YtfkdailfcmnjlaaDoorJS
import Derived.Test.YtfkdailfcmnjlaaDoorJT
import Derived.Test.YtfkdailfcmnjlaaDoorJU
import Derived.Test.YtfkdailfcmnjlaaDoorRows
import Derived.ProofKit
import Derived.LaidMore
import Derived.OpenShut
import Derived.Stop.Joined
import Derived.Deep.Strs
import Derived.Lib.SmallJoins
import Derived.Deep.SlicePairs
set_option linter.unusedVariables false
set_option linter.unusedSimpArgs false
namespace Go.Proofs.YtfkdailfcmnjlaaDoor
open Go Go.RowKit
set_option maxRecDepth 100000
attribute [local go_sem ↓] Go.wp_at_zero Go.wp_at_succ

/-- The lent lists are the lists. -/
theorem LoanAt.pairs {w wx : World} {lb g1 g2 : Nat} {s : Stt} {lv mv : Value} (h : LoanAt w wx lb g1 g2 s.levels.length s.members.length (entL s.levels 8) (entL s.members 8)) (h1 : PairsAt lv s.levels w) (h2 : PairsAt mv s.members w) :
    PairsAt (.slice (some ⟨g1, 0, none⟩) s.levels.length (s.levels.length + 8)) s.levels wx ∧ PairsAt (.slice (some ⟨g2, 0, none⟩) s.members.length (s.members.length + 8)) s.members wx := by
  obtain ⟨n1, a1, c1, _, q1⟩ := h1
  obtain ⟨n2, a2, c2, _, q2⟩ := h2
  refine ⟨⟨n1, _, _, rfl, fun i hi => ?_⟩, ⟨n2, _, _, rfl, fun i hi => ?_⟩⟩
  · obtain ⟨_, _, _, _, _, hn⟩ := q1 i hi
    have e : entL s.levels 8 i = s.levels.getD i ([], 0) := by unfold entL; rw [if_pos hi]
    refine ⟨g1, 0, rfl, ?_, ?_, hn⟩
    · rw [Nat.zero_add, h.row1.fst i (by omega), e]
    · rw [Nat.zero_add, h.row1.snd i (by omega), e]
  · obtain ⟨_, _, _, _, _, hn⟩ := q2 i hi
    have e : entL s.members 8 i = s.members.getD i ([], 0) := by unfold entL; rw [if_pos hi]
    refine ⟨g2, 0, rfl, ?_, ?_, hn⟩
    · rw [Nat.zero_add, h.row2.fst i (by omega), e]
    · rw [Nat.zero_add, h.row2.snd i (by omega), e]
set_option maxHeartbeats 8000000 in
theorem judged_any {lv mv : Value} {b : List UInt8} {ins : List Ins} {lp cp gi cap rp : Nat} {A : Bool} {Ru St : Nat} (e : Ev) (s : Stt) (w : World) (hld : loadOf b = some ins) (hlp : w.heap[lp]? = some (.cells #[.pointer (some ⟨cp, 0, none⟩)] 53 (0, 0))) (hca : CodeAt w cp gi cap (byteAt b 2) (byteAt b 1) ins) (hrp : w.heap[rp]? = some (.cells #[S b] 65 (0, 0))) (hj : judgeOf b ins (fieldsL e s) = some (A, Ru, St)) (h1 : PairsAt lv s.levels w) (h2 : PairsAt mv s.members w) (hl1 : s.levels.length ≤ 5900000000000) (hl2 : s.members.length ≤ 5900000000000) (hw : In64 e.wants) (hF : FieldsT (fieldsL e s)) :
    Calls Tryd.prog 8 #[.pointer (some ⟨lp, 0, none⟩), .pointer (some ⟨rp, 0, none⟩), evV e, sttV lv mv s] w fun en w' => en = .returned (.bool true) ∧ Below w.heap.size w w' := by
  have W1 := fun W (h : Below w.heap.size w W) => lend_any s W (h1.below h) (h2.below h) hl1 hl2
  have W2 := fun (W : World) (lv' mv' : Value) (h : Below w.heap.size w W) (p1 : PairsAt lv' s.levels W) (p2 : PairsAt mv' s.members W) => gjudge_any e s hld ((h.block _ (lt_of_get hlp)).trans hlp) (hca.below h) p1 p2 hF hj
  have W3 := fun (W : World) (h : Below w.heap.size w W) => rjudge_any (w := W) e s hld ((h.block _ (lt_of_get hrp)).trans hrp) (h1.below h) (h2.below h) hw hF hj
  have W4 := fun (W WX : World) (lb g1 g2 : Nat) (h : Below w.heap.size w W) (hx : LoanAt W WX lb g1 g2 s.levels.length s.members.length (entL s.levels 8) (entL s.members 8)) => back_any s W WX (h1.below h) (h2.below h) hl1 hl2 hx
  have HPR : Hid (∀ (W WX : World) (lb g1 g2 : Nat), Below w.heap.size w W → LoanAt W WX lb g1 g2 s.levels.length s.members.length (entL s.levels 8) (entL s.members 8) → PairsAt (.slice (some ⟨g1, 0, none⟩) s.levels.length (s.levels.length + 8)) s.levels WX ∧ PairsAt (.slice (some ⟨g2, 0, none⟩) s.members.length (s.members.length + 8)) s.members WX) := fun W WX lb g1 g2 hb hx => hx.pairs (h1.below hb) (h2.below hb)
  have hol : lv.oneCell' = true := by obtain ⟨_, a, c, rfl, _⟩ := h1; rfl
  have hom : mv.oneCell' = true := by obtain ⟨_, a, c, rfl, _⟩ := h2; rfl
  clear h1 h2 hF hw hj hld hlp hca hrp
  unfold verdV at W2 W3
  unfold evV sttV at *
  obtain ⟨sn, tg, wa, nd, wh⟩ := e
  obtain ⟨ls, df, ms, op⟩ := s
  simp only [] at *
  have H0 : Hid (Below w.heap.size w ((w.alloc (.cells #[S sn, S tg, .int .i64 wa, .int .i64 nd, .int .i64 wh] 23 (0, 0))).alloc (.cells #[lv, .int .i64 df, mv, .bool op] 27 (0, 0))) ∧ ((w.alloc (.cells #[S sn, S tg, .int .i64 wa, .int .i64 nd, .int .i64 wh] 23 (0, 0))).alloc (.cells #[lv, .int .i64 df, mv, .bool op] 27 (0, 0))).heap[w.heap.size]? = some (.cells #[S sn, S tg, .int .i64 wa, .int .i64 nd, .int .i64 wh] 23 (0, 0)) ∧ ((w.alloc (.cells #[S sn, S tg, .int .i64 wa, .int .i64 nd, .int .i64 wh] 23 (0, 0))).alloc (.cells #[lv, .int .i64 df, mv, .bool op] 27 (0, 0))).heap[w.heap.size + 1]? = some (.cells #[lv, .int .i64 df, mv, .bool op] 27 (0, 0))) :=
    ⟨((Below.refl _ _).alloc (Nat.le_refl _) _).alloc (by simp) _, by rw [Below.heap_alloc _ _ _ (by simp)]; exact heap_alloc_new w _, by have e := heap_alloc_new (w.alloc (.cells #[S sn, S tg, .int .i64 wa, .int .i64 nd, .int .i64 wh] 23 (0, 0))) (.cells #[lv, .int .i64 df, mv, .bool op] 27 (0, 0)); rw [World.size_alloc] at e; exact e⟩
  go_enter Tryd.func8, Tryd.ntmps8
  go_wp2_with fail
  obtain ⟨hB0, hE0, hS0⟩ := H0.out
  clear H0
  generalize ((w.alloc (.cells #[S sn, S tg, .int .i64 wa, .int .i64 nd, .int .i64 wh] 23 (0, 0))).alloc (.cells #[lv, .int .i64 df, mv, .bool op] 27 (0, 0))) = wz at *
  refine (W1 wz hB0).mono ?_
  rintro en w1 ⟨lb, g1, g2, rfl, hLo⟩
  clear W1
  have hb1 : Below wz.heap.size wz w1 := hLo.bl
  have hB1 := hB0.trans (hb1.mono hB0.size)
  have hE1 := (hb1.block _ (lt_of_get hE0)).trans hE0
  have hS1 := (hb1.block _ (lt_of_get hS0)).trans hS0
  have hbM : Below w1.heap.size w1 (w1.alloc (.cells #[.slice (some ⟨g1, 0, none⟩) ls.length (ls.length + 8), .int .i64 df, .slice (some ⟨g2, 0, none⟩) ms.length (ms.length + 8), .bool op] 27 (0, 0))) := (Below.refl _ _).alloc (Nat.le_refl _) _
  have hB2 := hB1.trans (hbM.mono hB1.size)
  have hLo2 := hLo.below hbM
  have hE2 := (hbM.block _ (lt_of_get hE1)).trans hE1
  have hS2 := (hbM.block _ (lt_of_get hS1)).trans hS1
  have hM2 : (w1.alloc (.cells #[.slice (some ⟨g1, 0, none⟩) ls.length (ls.length + 8), .int .i64 df, .slice (some ⟨g2, 0, none⟩) ms.length (ms.length + 8), .bool op] 27 (0, 0))).heap[w1.heap.size]? = _ := heap_alloc_new w1 _
  have H2 : Hid _ := And.intro hLo2 (And.intro hB2 (And.intro hE2 (And.intro hS2 hM2)))
  have HB0 : Hid _ := hB0
  have c0 := cell_of_row w1 w.heap.size 0 _ _ _ hE1
  have c1 := cell_of_row w1 w.heap.size 1 _ _ _ hE1
  have c2 := cell_of_row w1 w.heap.size 2 _ _ _ hE1
  have c3 := cell_of_row w1 w.heap.size 3 _ _ _ hE1
  have c4 := cell_of_row w1 w.heap.size 4 _ _ _ hE1
  simp only [List.getElem?_toArray, List.getElem?_cons_zero, List.getElem?_cons_succ] at c0 c1 c2 c3 c4
  have k1 : w.heap.size < w1.heap.size := lt_of_get hE1
  have k2 : w.heap.size ≠ w1.heap.size := by omega
  have k3 : w1.heap.size ≠ w.heap.size := by omega
  clear hLo hb1 hB1 hE1 hS1 hbM hB2 hLo2 hE2 hS2 hM2 hB0 hE0 hS0
  go_wp2_with fail
  obtain ⟨hLo2, hB2, hE2, hS2, hM2⟩ := H2.out
  clear H2 c0 c1 c2 c3 c4 k1 k2 k3
  generalize hbm : w1.heap.size = bm at *
  clear hbm
  generalize (w1.alloc (.cells #[.slice (some ⟨g1, 0, none⟩) ls.length (ls.length + 8), .int .i64 df, .slice (some ⟨g2, 0, none⟩) ms.length (ms.length + 8), .bool op] 27 (0, 0))) = w2 at *
  obtain ⟨p1, p2⟩ := HPR.out wz w2 lb g1 g2 HB0.out hLo2
  refine (W2 w2 _ _ hB2 p1 p2).mono ?_
  rintro en w3 ⟨rfl, hb3⟩
  clear W2 HPR p1 p2
  have hB3 := hB2.trans (hb3.mono hB2.size)
  have hLo3 := hLo2.below hb3
  have hE3 := (hb3.block _ (lt_of_get hE2)).trans hE2
  have hS3 := (hb3.block _ (lt_of_get hS2)).trans hS2
  clear hLo2 hB2 hE2 hS2 hM2 hb3
  have hbM : Below w3.heap.size w3 (w3.alloc (.cells #[.bool A, .int .i64 (Ru : Nat), .int .i64 (St : Nat)] 44 (0, 0))) := (Below.refl _ _).alloc (Nat.le_refl _) _
  have hB4 := hB3.trans (hbM.mono hB3.size)
  have hLo4 := hLo3.below hbM
  have hE4 := (hbM.block _ (lt_of_get hE3)).trans hE3
  have hS4 := (hbM.block _ (lt_of_get hS3)).trans hS3
  have hV4 : (w3.alloc (.cells #[.bool A, .int .i64 (Ru : Nat), .int .i64 (St : Nat)] 44 (0, 0))).heap[w3.heap.size]? = _ := heap_alloc_new w3 _
  have H4 : Hid _ := And.intro hLo4 (And.intro hB4 (And.intro hE4 (And.intro hS4 hV4)))
  have c0 := cell_of_row w3 w.heap.size 0 _ _ _ hE3
  have c1 := cell_of_row w3 w.heap.size 1 _ _ _ hE3
  have c2 := cell_of_row w3 w.heap.size 2 _ _ _ hE3
  have c3 := cell_of_row w3 w.heap.size 3 _ _ _ hE3
  have c4 := cell_of_row w3 w.heap.size 4 _ _ _ hE3
  have d0 := cell_of_row w3 (w.heap.size + 1) 0 _ _ _ hS3
  have d1 := cell_of_row w3 (w.heap.size + 1) 1 _ _ _ hS3
  have d2 := cell_of_row w3 (w.heap.size + 1) 2 _ _ _ hS3
  have d3 := cell_of_row w3 (w.heap.size + 1) 3 _ _ _ hS3
  simp only [List.getElem?_toArray, List.getElem?_cons_zero, List.getElem?_cons_succ] at c0 c1 c2 c3 c4 d0 d1 d2 d3
  have k1 : w.heap.size < w3.heap.size := lt_of_get hE3
  have k2 : w.heap.size ≠ w3.heap.size := by omega
  have k3 : w3.heap.size ≠ w.heap.size := by omega
  have j1 : w.heap.size + 1 < w3.heap.size := lt_of_get hS3
  have j2 : w.heap.size + 1 ≠ w3.heap.size := by omega
  have j3 : w3.heap.size ≠ w.heap.size + 1 := by omega
  clear hB3 hLo3 hE3 hS3 hbM hB4 hLo4 hE4 hS4 hV4
  go_wp2_with fail
  obtain ⟨hLo4, hB4, hE4, hS4, hV4⟩ := H4.out
  clear H4 c0 c1 c2 c3 c4 d0 d1 d2 d3 k1 k2 k3 j1 j2 j3
  generalize hbv : w3.heap.size = bv at *
  clear hbv
  generalize (w3.alloc (.cells #[.bool A, .int .i64 (Ru : Nat), .int .i64 (St : Nat)] 44 (0, 0))) = w4 at *
  refine (W3 w4 hB4).mono ?_
  rintro en w5 ⟨rfl, hb5⟩
  clear W3
  have hB5 := hB4.trans (hb5.mono hB4.size)
  have hLo5 := hLo4.below hb5
  have hS5 := (hb5.block _ (lt_of_get hS4)).trans hS4
  have hV5 := (hb5.block _ (lt_of_get hV4)).trans hV4
  have hbM : Below w5.heap.size w5 (w5.alloc (.cells #[.bool A, .int .i64 (Ru : Nat), .int .i64 (St : Nat)] 44 (0, 0))) := (Below.refl _ _).alloc (Nat.le_refl _) _
  have hB6 := hB5.trans (hbM.mono hB5.size)
  have hLo6 := hLo5.below hbM
  have hV6 := (hbM.block _ (lt_of_get hV5)).trans hV5
  have hU6 : (w5.alloc (.cells #[.bool A, .int .i64 (Ru : Nat), .int .i64 (St : Nat)] 44 (0, 0))).heap[w5.heap.size]? = _ := heap_alloc_new w5 _
  have H6 : Hid _ := And.intro hLo6 (And.intro hB6 (And.intro hV6 hU6))
  have d0 := cell_of_row w5 (w.heap.size + 1) 0 _ _ _ hS5
  have d1 := cell_of_row w5 (w.heap.size + 1) 1 _ _ _ hS5
  have d2 := cell_of_row w5 (w.heap.size + 1) 2 _ _ _ hS5
  have d3 := cell_of_row w5 (w.heap.size + 1) 3 _ _ _ hS5
  simp only [List.getElem?_toArray, List.getElem?_cons_zero, List.getElem?_cons_succ] at d0 d1 d2 d3
  have j1 : w.heap.size + 1 < w5.heap.size := lt_of_get hS5
  have j2 : w.heap.size + 1 ≠ w5.heap.size := by omega
  have j3 : w5.heap.size ≠ w.heap.size + 1 := by omega
  clear hB5 hLo5 hS5 hV5 hbM hB6 hLo6 hV6 hU6 hLo4 hB4 hE4 hS4 hV4 hb5
  go_wp2_with fail
  obtain ⟨hLo6, hB6, hV6, hU6⟩ := H6.out
  clear H6 d0 d1 d2 d3 j1 j2 j3
  generalize hbu : w5.heap.size = bu at *
  clear hbu
  generalize (w5.alloc (.cells #[.bool A, .int .i64 (Ru : Nat), .int .i64 (St : Nat)] 44 (0, 0))) = w6 at *
  have W7 := W4 wz w6 lb g1 g2 HB0.out hLo6
  refine W7.mono ?_
  rintro en w7 ⟨rfl, hb7, hk7⟩
  clear W4 W7
  have hB7 := HB0.out.trans (hb7.mono HB0.out.size)
  have nv1 : bv ≠ g1 := fun e => by
    obtain ⟨cs, hc, _⟩ := hLo6.row1.blk
    rw [← e, hV6] at hc; simp at hc
  have nv2 : bv ≠ g2 := fun e => by
    obtain ⟨cs, hc, _⟩ := hLo6.row2.blk
    rw [← e, hV6] at hc; simp at hc
  have nu1 : bu ≠ g1 := fun e => by
    obtain ⟨cs, hc, _⟩ := hLo6.row1.blk
    rw [← e, hU6] at hc; simp at hc
  have nu2 : bu ≠ g2 := fun e => by
    obtain ⟨cs, hc, _⟩ := hLo6.row2.blk
    rw [← e, hU6] at hc; simp at hc
  have hV7 := (hk7 bv (lt_of_get hV6) nv1 nv2).trans hV6
  have hU7 := (hk7 bu (lt_of_get hU6) nu1 nu2).trans hU6
  have vc := fun j => cell_of_row w7 bv j _ _ _ hV7
  have uc := fun j => cell_of_row w7 bu j _ _ _ hU7
  have v0 : w7.cell? ⟨bv, 0, none⟩ = some (.bool A) := vc 0
  have v1 : w7.cell? ⟨bv, 1, none⟩ = some (.int .i64 (Ru : Nat)) := vc 1
  have v2 : w7.cell? ⟨bv, 2, none⟩ = some (.int .i64 (St : Nat)) := vc 2
  have u0 : w7.cell? ⟨bu, 0, none⟩ = some (.bool A) := uc 0
  have u1 : w7.cell? ⟨bu, 1, none⟩ = some (.int .i64 (Ru : Nat)) := uc 1
  have u2 : w7.cell? ⟨bu, 2, none⟩ = some (.int .i64 (St : Nat)) := uc 2
  have HB7 : Hid _ := hB7
  clear hb7 hk7 hB7 hV7 hU7 hLo6 hB6 hV6 hU6 nv1 nv2 nu1 nu2 HB0 vc uc
  go_wp2_with fail
  go_ret
  exact ⟨rfl, HB7.out⟩
end Go.Proofs.YtfkdailfcmnjlaaDoor

namespace Go.Proofs.YtfkdailfcmnjlaaDoor
open Go Go.RowKit
set_option maxRecDepth 100000
attribute [local go_sem ↓] Go.wp_at_zero Go.wp_at_succ

theorem numd_any (n : Nat) (hn : n ≤ 7) (w : World) : Calls Tryd.prog 7 #[.int .i64 n] w fun e w' => e = .returned (.int .i64 n) ∧ w' = w := by
  go_enter Tryd.func7, Tryd.ntmps7
  go_wp2
  all_goals go_ret
  all_goals exact ⟨ret_int (by go_num), rfl⟩
set_option maxHeartbeats 4000000 in
theorem judges_any {lv mv : Value} (b : List UInt8) (e : Ev) (s : Stt) (w : World) (hE : Ef w) (h1 : PairsAt lv s.levels w) (h2 : PairsAt mv s.members w) (hl1 : s.levels.length ≤ 5900000000000) (hl2 : s.members.length ≤ 5900000000000) (hw : In64 e.wants) (hF : FieldsT (fieldsL e s)) :
    Calls Tryd.prog 3 #[S b, evV e, sttV lv mv s] w fun en w' => en = .returned (.bool true) ∧ Below w.heap.size w w' := by
  have W1 := fun W (h : Below w.heap.size w W) => gload_any b (w := W) (hE.below hE.pos h)
  have W2 := fun W => rload_any b W
  have W3 := fun w => numd_any 7 (by decide) w
  have W4 := fun w => numd_any 0 (by decide) w
  have W5 := fun (W : World) (ins : List Ins) (lp cp gi cap rp : Nat) (A : Bool) (Ru St : Nat) (h : Below w.heap.size w W) (hld : loadOf b = some ins) (hlp : W.heap[lp]? = some (.cells #[.pointer (some ⟨cp, 0, none⟩)] 53 (0, 0))) (hca : CodeAt W cp gi cap (byteAt b 2) (byteAt b 1) ins) (hrp : W.heap[rp]? = some (.cells #[S b] 65 (0, 0))) (hj : judgeOf b ins (fieldsL e s) = some (A, Ru, St)) => judged_any e s W hld hlp hca hrp hj (h1.below h) (h2.below h) hl1 hl2 hw hF
  have HJ : Hid (∀ ins, loadOf b = some ins → ∃ A Ru St, judgeOf b ins (fieldsL e s) = some (A, Ru, St)) := fun ins hld => by
    obtain ⟨a, r, q, h, _⟩ := judge_ok hld hF
    exact ⟨a, r, q, h⟩
  have hol : lv.oneCell' = true := by obtain ⟨_, a, c, rfl, _⟩ := h1; rfl
  have hom : mv.oneCell' = true := by obtain ⟨_, a, c, rfl, _⟩ := h2; rfl
  clear h1 h2 hw hE hl1 hl2 hF
  unfold evV sttV at *
  obtain ⟨sn, tg, wa, nd, wh⟩ := e
  obtain ⟨ls, df, ms, op⟩ := s
  simp only [] at *
  have H0 : Hid (Below w.heap.size w ((w.alloc (.cells #[S sn, S tg, .int .i64 wa, .int .i64 nd, .int .i64 wh] 23 (0, 0))).alloc (.cells #[lv, .int .i64 df, mv, .bool op] 27 (0, 0))) ∧ ((w.alloc (.cells #[S sn, S tg, .int .i64 wa, .int .i64 nd, .int .i64 wh] 23 (0, 0))).alloc (.cells #[lv, .int .i64 df, mv, .bool op] 27 (0, 0))).heap[w.heap.size]? = some (.cells #[S sn, S tg, .int .i64 wa, .int .i64 nd, .int .i64 wh] 23 (0, 0)) ∧ ((w.alloc (.cells #[S sn, S tg, .int .i64 wa, .int .i64 nd, .int .i64 wh] 23 (0, 0))).alloc (.cells #[lv, .int .i64 df, mv, .bool op] 27 (0, 0))).heap[w.heap.size + 1]? = some (.cells #[lv, .int .i64 df, mv, .bool op] 27 (0, 0))) :=
    ⟨((Below.refl _ _).alloc (Nat.le_refl _) _).alloc (by simp) _, by rw [Below.heap_alloc _ _ _ (by simp)]; exact heap_alloc_new w _, by have e := heap_alloc_new (w.alloc (.cells #[S sn, S tg, .int .i64 wa, .int .i64 nd, .int .i64 wh] 23 (0, 0))) (.cells #[lv, .int .i64 df, mv, .bool op] 27 (0, 0)); rw [World.size_alloc] at e; exact e⟩
  unfold GLoadAns at W1
  unfold RLoadAns at W2
  cases hld : loadOf b with
  | none =>
    rw [hld] at W1 W2
    simp only [] at W1 W2
    go_enter Tryd.func3, Tryd.ntmps3
    go_wp2_with fail
    obtain ⟨hB0, hE0, hS0⟩ := H0.out
    clear H0
    generalize ((w.alloc (.cells #[S sn, S tg, .int .i64 wa, .int .i64 nd, .int .i64 wh] 23 (0, 0))).alloc (.cells #[lv, .int .i64 df, mv, .bool op] 27 (0, 0))) = wz at *
    refine (W1 wz hB0).mono ?_
    rintro en w1 ⟨rfl, hb1⟩
    have HB1 : Hid _ := hB0.trans (hb1.mono hB0.size)
    clear W1 hb1 hB0 hE0 hS0
    go_wp2_with fail
    refine (W2 _).mono ?_
    rintro en w2 ⟨rfl, hb2⟩
    have HB2 : Hid _ := HB1.out.trans (hb2.mono HB1.out.size)
    clear W2 hb2
    go_wp2_with fail
    refine (W3 _).mono ?_
    rintro en w3 ⟨rfl, rfl⟩
    go_wp2
    go_ret
    exact ⟨rfl, HB2.out⟩
  | some ins =>
    rw [hld] at W1 W2
    simp only [] at W1 W2
    obtain ⟨A, Ru, St, hj⟩ := HJ.out ins hld
    go_enter Tryd.func3, Tryd.ntmps3
    go_wp2_with fail
    obtain ⟨hB0, hE0, hS0⟩ := H0.out
    clear H0
    generalize ((w.alloc (.cells #[S sn, S tg, .int .i64 wa, .int .i64 nd, .int .i64 wh] 23 (0, 0))).alloc (.cells #[lv, .int .i64 df, mv, .bool op] 27 (0, 0))) = wz at *
    refine (W1 wz hB0).mono ?_
    rintro en w1 ⟨⟨lp, cp, gi, cap, rfl, hlp, hca⟩, hb1⟩
    have hB1 := hB0.trans (hb1.mono hB0.size)
    have hE1 := (hb1.block _ (lt_of_get hE0)).trans hE0
    have hS1 := (hb1.block _ (lt_of_get hS0)).trans hS0
    have H1 : Hid _ := And.intro hB1 (And.intro hE1 (And.intro hS1 (And.intro hlp hca)))
    clear W1 hb1 hB0 hE0 hS0 hlp hca hB1 hE1 hS1
    go_wp2_with fail
    refine (W2 _).mono ?_
    rintro en w2 ⟨⟨rp, hrl, rfl, hrp⟩, hb2⟩
    obtain ⟨hB1, hE1, hS1, hlp, hca⟩ := H1.out
    have hB2 := hB1.trans (hb2.mono hB1.size)
    have hE2 := (hb2.block _ (lt_of_get hE1)).trans hE1
    have hS2 := (hb2.block _ (lt_of_get hS1)).trans hS1
    have hlp2 := (hb2.block _ (lt_of_get hlp)).trans hlp
    have hca2 := hca.below hb2
    have c0 := cell_of_row w2 w.heap.size 0 _ _ _ hE2
    have c1 := cell_of_row w2 w.heap.size 1 _ _ _ hE2
    have c2 := cell_of_row w2 w.heap.size 2 _ _ _ hE2
    have c3 := cell_of_row w2 w.heap.size 3 _ _ _ hE2
    have c4 := cell_of_row w2 w.heap.size 4 _ _ _ hE2
    have d0 := cell_of_row w2 (w.heap.size + 1) 0 _ _ _ hS2
    have d1 := cell_of_row w2 (w.heap.size + 1) 1 _ _ _ hS2
    have d2 := cell_of_row w2 (w.heap.size + 1) 2 _ _ _ hS2
    have d3 := cell_of_row w2 (w.heap.size + 1) 3 _ _ _ hS2
    simp only [List.getElem?_toArray, List.getElem?_cons_zero, List.getElem?_cons_succ] at c0 c1 c2 c3 c4 d0 d1 d2 d3
    have V5 := W5 w2 ins lp cp gi cap rp A Ru St hB2 hld hlp2 hca2 hrp hj
    have HB2 : Hid _ := hB2
    clear W2 hb2 H1 hB1 hE1 hS1 hlp hca hB2 hE2 hS2 hlp2 hca2 hrp W5 hj
    go_wp2_with fail
    refine (W4 _).mono ?_
    rintro en w3 ⟨rfl, rfl⟩
    go_wp2_with fail
    refine V5.mono ?_
    rintro en w4 ⟨rfl, hb4⟩
    have HB4 : Hid _ := HB2.out.trans (hb4.mono HB2.out.size)
    clear V5 hb4 c0 c1 c2 c3 c4 d0 d1 d2 d3
    go_wp2
    go_ret
    exact ⟨rfl, HB4.out⟩
end Go.Proofs.YtfkdailfcmnjlaaDoor

namespace Go.Proofs.YtfkdailfcmnjlaaDoor
open Go Go.ChangeShapes Go.WideShapes Go.ChangeAt Go.RowKit
set_option maxRecDepth 100000

theorem own : ownKnob Tryd.prog.godebug = none := by kernel_rfl
theorem gEff : Tryd.prog.globalNamed "gavel/code.effects" = some 0 := by kernel_rfl
theorem tEff : (Tryd.prog.globals[0]?).map (·.type) = some 141 := by kernel_rfl
theorem cEff : Tryd.prog.cellsOf 141 = 57 := by kernel_rfl
theorem cEff1 : Tryd.prog.cellsOf 140 = 3 := by kernel_rfl
theorem uEff : Tryd.prog.underlying 141 = some (.array 19 140) := by kernel_rfl
/-- The list of laid variables. -/
def laidE : List (String × DataW Unit) := [("gavel/code.effects", Rows.laid_gavel_code_effects)]
theorem eff_datum : Rows.laid_gavel_code_effects (H := Unit) = .agg ((List.range 19).map fun k => .agg [.lit (.int .i64 (effL.getD (k * 3) 0)), .lit (.int .i64 (effL.getD (k * 3 + 1) 0)), .lit (.int .i64 (effL.getD (k * 3 + 2) 0))]) := by kernel_rfl
theorem at_cut {l : List Value} {a r : Nat} {x : Value} (hr : r < 3) (h : ((((l.drop a).take 3).drop r).take 1) = [x]) : l[a + r]? = some x := by
  have := congrArg (fun l => l[0]?) h
  simp [List.getElem?_take, List.getElem?_drop, hr] at this
  exact this
theorem cInt : Tryd.prog.cellsOf 3 = 1 := by kernel_rfl
theorem cTy : Tryd.prog.cellsOf 121 = 1 := by kernel_rfl
theorem uTy : Tryd.prog.underlying 121 = some (.int .i64) := by kernel_rfl
theorem of_laidE {W : World} (h : laidMetH Tryd.prog laidE W) : Ef W := by
  have h' : laidMet Tryd.prog laidE W := by
    rw [MakeChecks.laidMetH_plain _ _ _ (by kernel_rfl)] at h
    exact h
  obtain ⟨ps, ⟨g0, t0, cs0, f0, p0, q0, hg0, ht0, hv0, hd0, _, _⟩, _, _⟩ := h'
  obtain rfl := Option.some.inj (gEff.symm.trans hg0)
  obtain rfl := Option.some.inj (tEff.symm.trans ht0)
  obtain ⟨xs, m, rfl, hx, hlen, hn, hel⟩ := DataW.trod_array uEff hd0
  rw [cEff] at hlen
  simp only [Prod.mk.injEq] at hx
  rw [eff_datum] at hx
  have hx1 := hx.1
  injection hx1 with hx2
  intro j hj
  have hk : j / 3 < 19 := by omega
  have he := hel (j / 3) hk
  rw [cEff1] at he
  have hkx : j / 3 < xs.length := by omega
  rw [List.getElem?_eq_getElem hkx] at he
  obtain ⟨y0, y1, y2, n, hy, hcl, i0, i1, i2⟩ := Go.Deep.trod_struct3 Tryd.underlying140 he
  simp only [cInt, cTy] at i0 i1 i2
  obtain ⟨n0, e0, d0, _⟩ := DataW.trod_int Tryd.underlying3 i0
  obtain ⟨n1, e1, d1, _⟩ := DataW.trod_int uTy i1
  obtain ⟨n2, e2, d2, _⟩ := DataW.trod_int uTy i2
  have h3 := congrArg (fun l => l[j / 3]?) hx2
  simp only [List.getElem?_map, List.getElem?_range hk, List.getElem?_eq_getElem hkx, Option.map_some, hy, d0, d1, d2, Option.some.injEq, DataW.agg.injEq, List.cons.injEq, DataW.lit.injEq, Lit.int.injEq, and_true, true_and] at h3
  obtain ⟨k0, k1, k2⟩ := h3
  have hcell := World.var?_cell hg0 hv0 j
  rw [hcell, ← Array.getElem?_toList]
  have hj3 : j = j / 3 * 3 ∨ j = j / 3 * 3 + 1 ∨ j = j / 3 * 3 + 2 := by omega
  rcases hj3 with hj3 | hj3 | hj3
  · rw [hj3]
    have := at_cut (r := 0) (by omega) e0
    rw [Nat.add_zero] at this
    rw [this, k0]
  · rw [hj3]
    have := at_cut (r := 1) (by omega) e1
    rw [this, k1]
  · rw [hj3]
    have := at_cut (r := 2) (by omega) e2
    rw [this, k2]
theorem door_metE (os : Os) (args : Array Value) : laidMetH Tryd.prog laidE ((World.doorLaid Tryd.prog 400 os).forCall (fun _ _ => 0) ⟨#[], args, []⟩).memory :=
  laidMetH_of_parts3 (fuel := 8) (laidMet_of_run' 8 (by kernel_rfl) (by kernel_rfl)) (by kernel_rfl) (by kernel_rfl)
end Go.Proofs.YtfkdailfcmnjlaaDoor

namespace Go.Proofs.YtfkdailfcmnjlaaDoor
open Go Go.ChangeShapes Go.WideShapes Go.ChangeAt Go.WideMaps Go.WideElems Go.RowKit Go.Deep
set_option maxRecDepth 100000

theorem in64_wf {n : Int} (h : (Lit.int .i64 n).wf = true) : In64 n := by
  have := h
  simp [Lit.wf, IntKind.min, IntKind.max, IntKind.signed, IntKind.bits] at this
  unfold In64
  exact this
variable {H : Type} {enc : TypeId × Value → H} {P : Program} {w : World} {base : Nat} {spare : Nat → Bool} {held : Bool}
theorem open_agg5 {r : Reach} {b0 : Nat} {t : TypeId} {f0 f1 f2 f3 f4 : Field} {v : Value} {d : DataW H} {p : List MemPlace} (hs : P.underlying t = some (.struct #[f0, f1, f2, f3, f4])) (hone : oneCellFields P #[f0, f1, f2, f3, f4] = true) (hC : P.cellsOf t = 5)
    (hv : Value.okWide P w r b0 t v) (h : DataW.Trod enc P w base spare held t v d p) :
    ∃ (v0 v1 v2 v3 v4 : Value) (y0 y1 y2 y3 y4 : DataW H × List MemPlace) (n : Nat), v = .agg #[v0, v1, v2, v3, v4] ∧ d = .agg [y0.1, y1.1, y2.1, y3.1, y4.1] ∧ p = y0.2 ++ (y1.2 ++ (y2.2 ++ (y3.2 ++ y4.2))) ∧
      DataW.trod enc P w base spare held n f0.type [v0] = some y0 ∧ DataW.trod enc P w base spare held n f1.type [v1] = some y1 ∧ DataW.trod enc P w base spare held n f2.type [v2] = some y2 ∧ DataW.trod enc P w base spare held n f3.type [v3] = some y3 ∧ DataW.trod enc P w base spare held n f4.type [v4] = some y4 := by
  obtain ⟨cs, rfl, hsz⟩ := okWide_struct hs hv
  obtain ⟨l⟩ := cs
  have hl : l.length = 5 := by simpa using hsz.trans hC
  obtain ⟨c0, c1, c2, c3, c4, rfl⟩ : ∃ c0 c1 c2 c3 c4, l = [c0, c1, c2, c3, c4] := by
    match l, hl with
    | [a, b, c, d, e], _ => exact ⟨a, b, c, d, e, rfl⟩
  obtain ⟨fuel, hf⟩ := h
  obtain ⟨xs, n, _, hx, _, hlen, hf⟩ := DataW.trod_struct hs hf
  obtain ⟨o0, k0⟩ := hone_of hone 0 f0 rfl
  obtain ⟨o1, k1⟩ := hone_of hone 1 f1 rfl
  obtain ⟨o2, k2⟩ := hone_of hone 2 f2 rfl
  obtain ⟨o3, k3⟩ := hone_of hone 3 f3 rfl
  obtain ⟨o4, k4⟩ := hone_of hone 4 f4 rfl
  match xs, hlen with
  | [y0, y1, y2, y3, y4], _ =>
    simp only [Prod.mk.injEq] at hx
    exact ⟨c0, c1, c2, c3, c4, y0, y1, y2, y3, y4, n, rfl, by simpa using hx.1, by simpa using hx.2, by simpa [Value.cells, o0, k0] using hf 0 f0 rfl, by simpa [Value.cells, o1, k1] using hf 1 f1 rfl, by simpa [Value.cells, o2, k2] using hf 2 f2 rfl, by simpa [Value.cells, o3, k3] using hf 3 f3 rfl, by simpa [Value.cells, o4, k4] using hf 4 f4 rfl⟩
theorem spot_none {a : Addr} {v : Value} (h : w.cell? a = some v) : ∃ b o, a = ⟨b, o, none⟩ := by
  obtain ⟨b, o, sp⟩ := a
  cases sp with
  | none => exact ⟨b, o, rfl⟩
  | some s =>
    exfalso
    simp only [World.cell?] at h
    split at h
    · simp at h
    · simp at h
/-- What a list of pairs is. -/
def strOf : Value → List UInt8
  | .string s => s.data.toList
  | _ => []
theorem open_pairs {t e : TypeId} {f0 f1 : Field} {fuel : Nat} {v : Value} {x : DataW H × List MemPlace} (ht : P.underlying t = some (.slice e)) (he : P.underlying e = some (.struct #[f0, f1]))
    (ce : P.cellsOf e = 2) (o0 : f0.offset = 0) (o1 : f1.offset = 1) (c0 : P.cellsOf f0.type = 1) (c1 : P.cellsOf f1.type = 1) (u0 : P.underlying f0.type = some .string) (u1 : P.underlying f1.type = some (.int .i64))
    (h : DataW.trod enc P w base (fun _ => true) held fuel t [v] = some x) : ∃ ls, PairsAt v ls w ∧ (∀ y ∈ ls, In64 y.2) ∧ ((x.1 = .nil ∧ ls = []) ∨ ∃ el sp, x.1 = .slice el sp ∧ el.length = ls.length) := by
  rcases Deep.open_slice_pairs ht he ce o0 o1 c0 c1 h with ⟨h0, rfl⟩ | ⟨a, len, cap, m, n, V0, V1, D0, D1, P0, P1, h0, _, hl, hm, hmm, rfl, hx⟩
  · simp at h0; subst h0
    exact ⟨[], ⟨by simp, none, 0, rfl, fun i hi => by simp at hi⟩, by simp, .inl ⟨rfl, rfl⟩⟩
  · simp at h0; subst h0
    simp at hmm
    subst hmm
    have hform : 0 < len → ∃ b o, a = ⟨b, o, none⟩ := fun h0 => by
      obtain ⟨g0, _⟩ := hx 0 (by omega)
      have e : a.add (0 * 2) = a := by simp [Addr.add]
      rw [e] at g0
      exact spot_none g0
    have hval : ∀ i, i < len → ∃ b o, a = ⟨b, o, none⟩ ∧ w.cell? ⟨b, o + i * 2, none⟩ = some (S (strOf (V0 i))) ∧ w.cell? ⟨b, o + i * 2 + 1, none⟩ = some (.int .i64 (intOf (V1 i))) ∧ In64 (intOf (V1 i)) := fun i hi => by
      obtain ⟨g0, g1, g2, g3⟩ := hx i (by omega)
      obtain ⟨s, e0, _, _⟩ := DataW.trod_string u0 g2
      obtain ⟨q, e1, _, hw⟩ := DataW.trod_int u1 g3
      simp at e0 e1
      obtain ⟨b, o, rfl⟩ := hform (by omega)
      rw [Addr.add_mid] at g0 g1
      rw [e0] at g0 ⊢
      rw [e1] at g1 ⊢
      exact ⟨b, o, rfl, g0, by rw [Nat.add_assoc]; exact g1, in64_wf hw⟩
    refine ⟨(List.range len).map fun i => (strOf (V0 i), intOf (V1 i)), ⟨by simp; omega, some a, _, by simp; rfl, fun i hi => ?_⟩, ?_, .inr ⟨_, _, rfl, by simp⟩⟩
    · simp at hi
      obtain ⟨b, o, rfl, q0, q1, q2⟩ := hval i hi
      have e : ((List.range len).map fun i => (strOf (V0 i), intOf (V1 i))).getD i ([], 0) = (strOf (V0 i), intOf (V1 i)) := by simp [List.getD_eq_getElem?_getD, hi]
      rw [e]
      exact ⟨b, o, rfl, q0, q1, q2⟩
    · intro y hy
      simp at hy
      obtain ⟨i, hi, rfl⟩ := hy
      obtain ⟨_, _, _, _, _, q⟩ := hval i hi
      exact q
end Go.Proofs.YtfkdailfcmnjlaaDoor
