/-
  A round of the document's Judge: one kind of instruction. A round of the document's Judge: one kind of instruction. A round of the document's Judge: one kind of instruction. A round of the document's Judge: one kind of instruction. A round of the document's Judge: one kind of instruction. A round of the document's Judge: one kind of instruction.
-/
import Derived.Test.YtfkdailfcmnjlaaGreatDoorCompiles01
import Derived.Test.YtfkdailfcmnjlaaGreatDoorCompiles02
import Derived.Test.YtfkdailfcmnjlaaGreatDoorCompiles04
import Derived.Test.YtfkdailfcmnjlaaGreatDoorCompiles05
import Derived.Test.YtfkdailfcmnjlaaGreatDoorCompiles06
import Derived.Test.YtfkdailfcmnjlaaGreatDoorCompiles07
import Derived.Test.YtfkdailfcmnjlaaGreatDoorCompiles08
import Derived.Test.YtfkdailfcmnjlaaGreatDoorCompiles09
import Derived.Test.YtfkdailfcmnjlaaGreatDoorCompiles10
import Derived.Test.YtfkdailfcmnjlaaGreatDoorCompiles11
import Derived.Test.YtfkdailfcmnjlaaGreatDoorCompiles12
import Derived.Test.YtfkdailfcmnjlaaGreatDoorCompiles13
import Derived.Test.YtfkdailfcmnjlaaGreatDoorCompiles14
import Derived.Test.YtfkdailfcmnjlaaGreatDoorCompiles15
import Derived.Test.YtfkdailfcmnjlaaGreatDoorCompiles16
import Derived.Test.YtfkdailfcmnjlaaGreatDoorCompiles17
import Derived.Test.YtfkdailfcmnjlaaGreatDoorCompiles18
import Derived.Test.YtfkdailfcmnjlaaGreatDoorCompiles19
import Derived.Test.YtfkdailfcmnjlaaGreatDoorCompiles20
import Derived.Test.YtfkdailfcmnjlaaGreatDoorCompiles21
import Derived.Test.YtfkdailfcmnjlaaGreatDoorCompiles22
import Derived.Test.YtfkdailfcmnjlaaGreatDoorCompiles23
import Derived.Test.YtfkdailfcmnjlaaGreatDoorCompiles24
import Derived.Test.YtfkdailfcmnjlaaGreatDoorCompiles27
import Derived.Test.YtfkdailfcmnjlaaGreatDoorCompiles28
import Derived.Test.YtfkdailfcmnjlaaGreatDoorCompiles29
import Derived.Test.YtfkdailfcmnjlaaGreatDoorCompiles30
import Derived.Test.YtfkdailfcmnjlaaGreatDoorCompiles31
import Derived.Test.YtfkdailfcmnjlaaGreatDoorCompiles32
import Derived.Test.YtfkdailfcmnjlaaGreatDoorCompiles34
import Derived.Test.YtfkdailfcmnjlaaGreatDoorCompiles35
import Derived.Test.YtfkdailfcmnjlaaGreatDoorCompiles36
import Derived.Test.YtfkdailfcmnjlaaGreatDoorCompiles37
import Derived.Test.YtfkdailfcmnjlaaGreatDoorCompiles38
import Derived.Test.YtfkdailfcmnjlaaGreatDoorCompiles39
import Derived.Test.YtfkdailfcmnjlaaGreatDoorCompiles40
import Derived.Test.YtfkdailfcmnjlaaGreatDoorCompiles41
import Derived.Test.YtfkdailfcmnjlaaGreatDoorCompiles43
import Derived.Test.YtfkdailfcmnjlaaGreatDoorCompiles44
import Derived.Test.YtfkdailfcmnjlaaGreatDoorCompiles45
import Derived.Test.YtfkdailfcmnjlaaGreatDoorCompiles53
import Derived.Test.YtfkdailfcmnjlaaGreatDoorCompiles54
import Derived.Test.YtfkdailfcmnjlaaGreatDoorCompiles55
import Derived.Test.YtfkdailfcmnjlaaGreatDoorCompiles56
import Derived.Test.YtfkdailfcmnjlaaGreatDoorLays
import Derived.Test.YtfkdailfcmnjlaaGreatDoorLays2
import Derived.WalkKit
import Derived.Deep.QuietTactic
import Derived.BigQuiet
import Derived.WalkSpells
import GoSem.Op.String
import Derived.Deep.AppendLies
import Derived.Deep.RegionHeld3
import Derived.Deep.DrawnRows
import Derived.Deep.RegionHeldLaw
import Derived.Deep.RegionLaw
import Derived.Lib.ParseIntBCases
import Derived.Deep.OwnRows
import Derived.Lib.LaidTab
import Derived.Lib.AppendIntMem
import Derived.Shelf.Strings.Builder1
import Derived.Laws.CopyOwn
import Derived.Deep.DeepCutAuto
import Derived.WalkSmall
import Derived.Lib.AppendZerosOnto
import Derived.Lib.SliceRun
import Derived.Shelf.Abstract
import Derived.Deep.CutBlock
set_option linter.unusedVariables false
set_option linter.unusedSimpArgs false
namespace Go.Proofs.YtfkdailfcmnjlaaGreatDoor
open Go Go.RowKit
set_option maxRecDepth 100000
attribute [local go_sem ↓] Go.wp_at_zero Go.wp_at_succ
set_option maxHeartbeats 8000000 in
set_option maxRecDepth 1000000 in
theorem rj_7 {b : List UInt8} {ins : List Ins} {fl : List Int} {cp gf : Nat} {w w4 wr : World} {A : Bool} {Ru St a q ks : Nat} {vs : Value} (c1 c2 c3 c4 c5 c17 c18 c19 c20 c21 : Value) (u13 u14 u15 u16 u22 u23 u24 u25 u26 u27 u28 u29 u30 u31 u32 u33 u34 u35 u36 u37 u38 u39 u40 u41 u42 u43 u44 u45 u46 u47 u48 u49 u50 u51 u52 u53 u54 u55 u56 u57 u58 u59 u60 u61 u62 u63 u64 u65 u66 u67 u68 u69 u70 u71 u72 u73 u74 u75 u76 u77 u78 u79 u80 u81 u82 u83 u84 u85 u86 u87 u88 u89 u90 u91 u92 u93 u94 u95 u96 u97 u98 u99 u100 u101 u102 u103 u104 u105 u106 u107 u108 u109 u110 u111 u112 u113 u114 u115 u116 u117 u118 u119 u120 u121 u122 u123 u124 u125 u126 u127 u128 u129 u130 u131 u132 u133 u134 u135 u136 u137 u138 u139 u140 u141 u142 u143 u144 u145 u146 u147 u148 u149 u150 u151 u152 u153 u154 u155 u156 u157 u158 u159 u160 u161 u162 u163 u164 u165 u166 u167 u168 u169 u170 u171 u172 u173 u174 u175 u176 u177 u178 u179 u180 u181 u182 u183 u184 u185 u186 u187 u188 u189 u190 u191 u192 u193 u194 u195 u196 u197 u198 u199 u200 u201 u202 u203 u204 u205 u206 u207 u208 u209 u210 u211 u212 u213 u214 u215 u216 u217 u218 u219 u220 u221 u222 u223 u224 u225 u226 u227 : Value) (hld : loadOf b = some ins) (hF : FieldsT fl) (hcp : cp < w.heap.size) (HRes : Hid (∀ W, Below w4.heap.size w4 W → W.heap[w.heap.size + 1 + 1]? = some (.cells #[.bool false, .int .i64 0, .int .i64 0] 40 (0, 0)) ∧ Below w.heap.size w W)) (HX : Hid (RJX b ins fl cp gf w4 wr A Ru St a q vs)) (hNN : byteAt b a = ks + 7) (hks : ks ≤ 4) :
    Code.wp Tryz.prog ((Tryz.f26.body.bind loopIn).getD .skip) (Exit.then (fun a' w'' => JI b ins fl cp gf w w4 A Ru St c1 c2 c3 c4 c5 c17 c18 c19 c20 c21 a' w'' ∧ JMu b a' w'' < b.length - a) (JQ (JRj b w A Ru St))) ⟨#[.pointer (some ⟨cp, 0, none⟩), c1, c2, c3, c4, c5, .pointer (some ⟨w.heap.size + 1 + 1, 0, none⟩), .slice (some ⟨gf, 0, none⟩) 9 9, vs, .slice (some ⟨w4.heap.size, 0, none⟩) 256 256, .slice (some ⟨w4.heap.size + 1, 0, none⟩) 5 5, .int .i64 a, .int .i64 q, u13, u14, u15, u16, c17, c18, c19, c20, c21, u22, u23, u24, u25, u26, u27, u28, u29, u30, u31, u32, u33, u34, u35, u36, u37, u38, u39, u40, u41, u42, u43, u44, u45, u46, u47, u48, u49, u50, u51, u52, u53, u54, u55, u56, u57, u58, u59, u60, u61, u62, u63, u64, u65, u66, u67, u68, u69, u70, u71, u72, u73, u74, u75, u76, u77, u78, u79, u80, u81, u82, u83, u84, u85, u86, u87, u88, u89, u90, u91, u92, u93, u94, u95, u96, u97, u98, u99, u100, u101, u102, u103, u104, u105, u106, u107, u108, u109, u110, u111, u112, u113, u114, u115, u116, u117, u118, u119, u120, u121, u122, u123, u124, u125, u126, u127, u128, u129, u130, u131, u132, u133, u134, u135, u136, u137, u138, u139, u140, u141, u142, u143, u144, u145, u146, u147, u148, u149, u150, u151, u152, u153, u154, u155, u156, u157, u158, u159, u160, u161, u162, u163, u164, u165, u166, u167, u168, u169, u170, u171, u172, u173, u174, u175, u176, u177, u178, u179, u180, u181, u182, u183, u184, u185, u186, u187, u188, u189, u190, u191, u192, u193, u194, u195, u196, u197, u198, u199, u200, u201, u202, u203, u204, u205, u206, u207, u208, u209, u210, u211, u212, u213, u214, u215, u216, u217, u218, u219, u220, u221, u222, u223, u224, u225, u226, u227], []⟩ wr := by
  obtain ⟨l1, l2, l3, l4, l5, l6, C0, l7, l8⟩ := load_known hld
  have HFL : Hid _ := hF
  have HLD : Hid _ := hld
  clear l7 l8 hF hld
  obtain ⟨C, i, k, st, cl, f, hG, hpl, hS, hJ⟩ := HX.out
  have hxo := l3.each _ (getD_ins hS.hi)
  have hab := at_b hxo
  have hplt := (pl_lt l3 hS.hi).2
  have hstop := hS.stop
  have hstep := hS.step l3 rfl l6 HFL.out hG
  have hop := (num_ok hxo).op
  rw [hpl] at hab hplt
  have hcc : wr.cell? ⟨cp, 0, none⟩ = some (S b) := cell_of_row wr cp 0 _ _ _ hJ.code
  have hex := ex_drop b (a := a)
  have hq0 : (0 : Int) ≤ (a : Int) ∧ (a : Int) ≤ (b.length : Int) := by omega
  have hqs : q ≤ 4000 := by have := hS.le; have := hS.hi; omega
  have e0 : byteAt b a = (ins.getD i noIns).op := by rw [← hab.b0, byte_drop]; rfl
  rw [hNN] at e0
  generalize ins.getD i noIns = x at *
  generalize b.drop a = bb at *
  have E0 : Hid _ := e0
  clear e0 hNN
  have hb0 : 0 < (ByteArray.mk bb.toArray).size := hab.pos
  have hv0 : ((ByteArray.mk bb.toArray)[0]).toNat = x.op := (ba_at bb 0 hb0).trans hab.b0
  have hbp := hab.pos
  have hb4 : bb.length ≤ 4000 := by have := hab.len; omega
  have W2 := fun w => size_any x.op (by omega) w
  have HRs : Hid _ := HRes.out wr hJ.bel
  clear HX
  obtain ⟨sa, scap, hu8⟩ := hJ.sta.sl
  rw [List.length_reverse] at hu8
  subst hu8
  have hsl := hS.dep
  have hsz9 := size_le x.op
  have ha4 : a ≤ 4000 := by omega
  conv => arg 2; whnf
  go_upto_block 2 with (first | (go_at_call 49; refine (W2 _).mono ?_; rintro e0 w' ⟨rfl, hw'⟩; obtain rfl := hw'.symm))
  have e := E0.out.symm
  clear E0
  skip
  rw [e]
  have hk5 : ks = 0 ∨ ks = 1 ∨ ks = 2 ∨ ks = 3 ∨ ks = 4 := by omega
  have hsz : sizeOp (ks + 7) = 1 := by rcases hk5 with rfl | rfl | rfl | rfl | rfl <;> rfl
  rw [hsz]
  obtain ⟨k', st', cl', jj, t, kq, f', g1, g2, g3, g4, g5⟩ := hstep (by omega)
  match st, hsl, hS, hJ, g2 with
  | [], _, _, _, g2 => exfalso; unfold stepK at g2; rw [e] at g2; rcases hk5 with rfl | rfl | rfl | rfl | rfl <;> cases g2
  | [v], _, _, _, g2 => exfalso; unfold stepK at g2; rw [e] at g2; rcases hk5 with rfl | rfl | rfl | rfl | rfl <;> cases g2
  | v :: u :: r, hsl, hS, hJ, g2 =>
    have g2' : some (twoOp (ks + 7) u v :: r, cl, false) = some (st', cl', jj) := by rw [← g2]; unfold stepK; rw [e]; rcases hk5 with rfl | rfl | rfl | rfl | rfl <;> rfl
    simp only [Option.some.injEq, Prod.mk.injEq] at g2'
    obtain ⟨rfl, rfl, rfl⟩ := g2'
    obtain ⟨g, cap, hform, hcap⟩ := hJ.form
    simp only [List.length_cons, Value.slice.injEq] at hform
    obtain ⟨rfl, -, rfl⟩ := hform
    have hsl' : r.length + 1 + 1 ≤ 24 := hsl
    obtain ⟨htop, hfz⟩ := RJ.top (v := v) (r := u :: r) hJ
    have htop : wr.cell? ⟨g, r.length + 1, none⟩ = some (.int .i64 v) := htop
    have hsec := RJ.sec (v := v) (u := u) (r := r) hJ
    have hfz0 := hfz r.length
    have hIn : In64 u ∧ In64 v := by
      have htt := hS.fit.typ
      cases hks : k.st with
      | nil => rw [hks] at htt; exact htt.elim
      | cons t0 ts =>
        rw [hks] at htt
        cases hks2 : ts with
        | nil => rw [hks2] at htt; exact htt.2.elim
        | cons t1 ts2 => rw [hks2] at htt; exact ⟨htt.2.1.1, htt.1.1⟩
    have W3 := fun w => two_any (sgnL ks) hIn.1 hIn.2 w
    have htw : twoI (sgnL ks) u v = twoOp (ks + 7) u v := by rcases hk5 with rfl | rfl | rfl | rfl | rfl <;> rfl
    rw [htw] at W3
    have hin : (0 : Int) ≤ (r.length : Int) + 1 + 1 - 1 ∧ (r.length : Int) + 1 + 1 - 1 < (r.length : Int) + 1 + 1 := by omega
    have hin1 : (0 : Int) ≤ (r.length : Int) + 1 + 1 - 2 ∧ (r.length : Int) + 1 + 1 - 2 < (r.length : Int) + 1 + 1 := by omega
    have hcap' : r.length + 1 + 1 ≤ scap := hcap
    have hin2 : (0 : Int) ≤ (r.length : Int) + 1 + 1 - 1 ∧ (r.length : Int) + 1 + 1 - 1 ≤ (scap : Int) := by omega
    have hin3 : (0 : Int) ≤ (r.length : Int) ∧ (r.length : Int) < (r.length : Int) + 1 + 1 := by omega
    have hin4 : (0 : Int) ≤ (r.length : Int) + 1 ∧ (r.length : Int) + 1 < (r.length : Int) + 1 + 1 := by omega
    have hw1 : IntKind.i64.wrap ((r.length : Int) + 1 + 1 - 2) = (r.length : Int) := by rw [IntKind.wrap_i64]; omega
    have hw2 : IntKind.i64.wrap ((r.length : Int) + 1 + 1 - 1) = (r.length : Int) + 1 := by rw [IntKind.wrap_i64]; omega
    have hw5 : IntKind.i64.wrap ((r.length : Int) + 1) = (r.length : Int) + 1 := by rw [IntKind.wrap_i64]; omega
    have hw6 : IntKind.i64.wrap (r.length : Int) = (r.length : Int) := by rw [IntKind.wrap_i64]; omega
    have hw7 : IntKind.i64.wrap ((ks : Int) + 7 - 7) = (ks : Int) := by rw [IntKind.wrap_i64]; omega
    have hw8 : IntKind.i64.wrap (ks : Int) = (ks : Int) := by rw [IntKind.wrap_i64]; omega
    have hn1 : ((ks : Int) + 7 == 1) = false := by simp; omega
    have hn2 : ((ks : Int) + 7 == 2) = false := by simp; omega
    have hn3 : ((ks : Int) + 7 == 3) = false := by simp; omega
    have hn4 : ((ks : Int) + 7 == 4) = false := by simp; omega
    have hn5 : ((ks : Int) + 7 == 5) = false := by simp; omega
    have hn6 : ((ks : Int) + 7 == 6) = false := by simp; omega
    have hn7 : (ks : Int) + 7 ≤ 11 := by omega
    have hn8 : (0 : Int) ≤ (ks : Int) ∧ (ks : Int) < 5 := by omega
    have hw3 : RowKit.wrap64 ((r.length : Int) + 1 + 1 - 2) = (r.length : Int) := by unfold RowKit.wrap64; omega
    have hw4 : RowKit.wrap64 ((r.length : Int) + 1 + 1 - 1) = (r.length : Int) + 1 := by unfold RowKit.wrap64; omega
    rw [if_neg (by decide), e, hsz] at g3
    have HA : Hid (a + 1 < b.length) := by
      have := (pl_lt l3 g5.hi).2
      rw [g3, hpl] at this
      exact this
    have HN : Hid (RJX b ins fl cp gf w4 (wr.setCell ⟨g, r.length, none⟩ (.int .i64 (twoOp (ks + 7) u v))) A Ru St (a + 1) (q + 1) (.slice (some ⟨g, 0, none⟩) (r.length + 1) scap)) := ⟨C, t, kq, _, cl, f', hG, by rw [g3, hpl], g5, RJ.pop (v := v) (r := twoOp (ks + 7) u v :: r) (RJ.set2 (v := v) (u := u) (r := r) hJ (twoOp (ks + 7) u v))⟩
    have hsg : wr.cell? ⟨w4.heap.size + 1, ks, none⟩ = some (S (sgnL ks)) := by rcases hk5 with rfl | rfl | rfl | rfl | rfl <;> exact cell_of_row wr _ _ _ _ _ hJ.sgn
    generalize twoOp (ks + 7) u v = y at *
    generalize sgnL ks = sg at *
    clear hk5
    clear hJ hS hstop hstep g1 g2 g3 g4 g5 hG hab hxo hfz
    go_wp2_with fail
    go_region_with (first | (go_at_call 51; refine (W3 _).mono ?_; rintro e w2 ⟨rfl, rfl⟩))
    all_goals go_wp2
    all_goals refine ⟨?_, by have := HA.out; simp [JMu, intOf]; omega⟩
    all_goals unfold JI
    all_goals refine ⟨_, _, _, _, _, _, _, _, _, _, _, _, _, _, _, _, _, _, _, _, _, _, _, _, _, _, _, _, _, _, _, _, _, _, _, _, _, _, _, _, _, _, _, _, _, _, _, _, _, _, _, _, _, _, _, _, _, _, _, _, _, _, _, _, _, _, _, _, _, _, _, _, _, _, _, _, _, _, _, _, _, _, _, _, _, _, _, _, _, _, _, _, _, _, _, _, _, _, _, _, _, _, _, _, _, _, _, _, _, _, _, _, _, _, _, _, _, _, _, _, _, _, _, _, _, _, _, _, _, _, _, _, _, _, _, _, _, _, _, _, _, _, _, _, _, _, _, _, _, _, _, _, _, _, _, _, _, _, _, _, _, _, _, _, _, _, _, _, _, _, _, _, _, _, _, _, _, _, _, _, _, _, _, _, _, _, _, _, _, _, _, _, _, _, _, _, _, _, _, _, _, _, _, _, _, _, _, _, _, _, _, _, _, ?_, rfl⟩
    all_goals exact ⟨a + 1, q + 1, by go_num, by go_num, HN.out.below (by first | exact Below.refl _ _ | exact below_drewN (Below.refl _ _) _ | exact (Below.refl _ _).drew)⟩
end Go.Proofs.YtfkdailfcmnjlaaGreatDoor

namespace Go.Proofs.YtfkdailfcmnjlaaGreatDoor
open Go Go.RowKit
set_option maxRecDepth 100000
attribute [local go_sem ↓] Go.wp_at_zero Go.wp_at_succ
set_option maxHeartbeats 8000000 in
set_option maxRecDepth 1000000 in
theorem rj_12 {b : List UInt8} {ins : List Ins} {fl : List Int} {cp gf : Nat} {w w4 wr : World} {A : Bool} {Ru St a q : Nat} {vs : Value} (c1 c2 c3 c4 c5 c17 c18 c19 c20 c21 : Value) (u13 u14 u15 u16 u22 u23 u24 u25 u26 u27 u28 u29 u30 u31 u32 u33 u34 u35 u36 u37 u38 u39 u40 u41 u42 u43 u44 u45 u46 u47 u48 u49 u50 u51 u52 u53 u54 u55 u56 u57 u58 u59 u60 u61 u62 u63 u64 u65 u66 u67 u68 u69 u70 u71 u72 u73 u74 u75 u76 u77 u78 u79 u80 u81 u82 u83 u84 u85 u86 u87 u88 u89 u90 u91 u92 u93 u94 u95 u96 u97 u98 u99 u100 u101 u102 u103 u104 u105 u106 u107 u108 u109 u110 u111 u112 u113 u114 u115 u116 u117 u118 u119 u120 u121 u122 u123 u124 u125 u126 u127 u128 u129 u130 u131 u132 u133 u134 u135 u136 u137 u138 u139 u140 u141 u142 u143 u144 u145 u146 u147 u148 u149 u150 u151 u152 u153 u154 u155 u156 u157 u158 u159 u160 u161 u162 u163 u164 u165 u166 u167 u168 u169 u170 u171 u172 u173 u174 u175 u176 u177 u178 u179 u180 u181 u182 u183 u184 u185 u186 u187 u188 u189 u190 u191 u192 u193 u194 u195 u196 u197 u198 u199 u200 u201 u202 u203 u204 u205 u206 u207 u208 u209 u210 u211 u212 u213 u214 u215 u216 u217 u218 u219 u220 u221 u222 u223 u224 u225 u226 u227 : Value) (hld : loadOf b = some ins) (hF : FieldsT fl) (hcp : cp < w.heap.size) (HRes : Hid (∀ W, Below w4.heap.size w4 W → W.heap[w.heap.size + 1 + 1]? = some (.cells #[.bool false, .int .i64 0, .int .i64 0] 40 (0, 0)) ∧ Below w.heap.size w W)) (HX : Hid (RJX b ins fl cp gf w4 wr A Ru St a q vs)) (hNN : byteAt b a = 12) :
    Code.wp Tryz.prog ((Tryz.f26.body.bind loopIn).getD .skip) (Exit.then (fun a' w'' => JI b ins fl cp gf w w4 A Ru St c1 c2 c3 c4 c5 c17 c18 c19 c20 c21 a' w'' ∧ JMu b a' w'' < b.length - a) (JQ (JRj b w A Ru St))) ⟨#[.pointer (some ⟨cp, 0, none⟩), c1, c2, c3, c4, c5, .pointer (some ⟨w.heap.size + 1 + 1, 0, none⟩), .slice (some ⟨gf, 0, none⟩) 9 9, vs, .slice (some ⟨w4.heap.size, 0, none⟩) 256 256, .slice (some ⟨w4.heap.size + 1, 0, none⟩) 5 5, .int .i64 a, .int .i64 q, u13, u14, u15, u16, c17, c18, c19, c20, c21, u22, u23, u24, u25, u26, u27, u28, u29, u30, u31, u32, u33, u34, u35, u36, u37, u38, u39, u40, u41, u42, u43, u44, u45, u46, u47, u48, u49, u50, u51, u52, u53, u54, u55, u56, u57, u58, u59, u60, u61, u62, u63, u64, u65, u66, u67, u68, u69, u70, u71, u72, u73, u74, u75, u76, u77, u78, u79, u80, u81, u82, u83, u84, u85, u86, u87, u88, u89, u90, u91, u92, u93, u94, u95, u96, u97, u98, u99, u100, u101, u102, u103, u104, u105, u106, u107, u108, u109, u110, u111, u112, u113, u114, u115, u116, u117, u118, u119, u120, u121, u122, u123, u124, u125, u126, u127, u128, u129, u130, u131, u132, u133, u134, u135, u136, u137, u138, u139, u140, u141, u142, u143, u144, u145, u146, u147, u148, u149, u150, u151, u152, u153, u154, u155, u156, u157, u158, u159, u160, u161, u162, u163, u164, u165, u166, u167, u168, u169, u170, u171, u172, u173, u174, u175, u176, u177, u178, u179, u180, u181, u182, u183, u184, u185, u186, u187, u188, u189, u190, u191, u192, u193, u194, u195, u196, u197, u198, u199, u200, u201, u202, u203, u204, u205, u206, u207, u208, u209, u210, u211, u212, u213, u214, u215, u216, u217, u218, u219, u220, u221, u222, u223, u224, u225, u226, u227], []⟩ wr := by
  obtain ⟨l1, l2, l3, l4, l5, l6, C0, l7, l8⟩ := load_known hld
  have HFL : Hid _ := hF
  have HLD : Hid _ := hld
  clear l7 l8 hF hld
  obtain ⟨C, i, k, st, cl, f, hG, hpl, hS, hJ⟩ := HX.out
  have hxo := l3.each _ (getD_ins hS.hi)
  have hab := at_b hxo
  have hplt := (pl_lt l3 hS.hi).2
  have hstop := hS.stop
  have hstep := hS.step l3 rfl l6 HFL.out hG
  have hop := (num_ok hxo).op
  rw [hpl] at hab hplt
  have hcc : wr.cell? ⟨cp, 0, none⟩ = some (S b) := cell_of_row wr cp 0 _ _ _ hJ.code
  have hex := ex_drop b (a := a)
  have hq0 : (0 : Int) ≤ (a : Int) ∧ (a : Int) ≤ (b.length : Int) := by omega
  have hqs : q ≤ 4000 := by have := hS.le; have := hS.hi; omega
  have e0 : byteAt b a = (ins.getD i noIns).op := by rw [← hab.b0, byte_drop]; rfl
  rw [hNN] at e0
  generalize ins.getD i noIns = x at *
  generalize b.drop a = bb at *
  have E0 : Hid _ := e0
  clear e0 hNN
  have hb0 : 0 < (ByteArray.mk bb.toArray).size := hab.pos
  have hv0 : ((ByteArray.mk bb.toArray)[0]).toNat = x.op := (ba_at bb 0 hb0).trans hab.b0
  have hbp := hab.pos
  have hb4 : bb.length ≤ 4000 := by have := hab.len; omega
  have W2 := fun w => size_any x.op (by omega) w
  have HRs : Hid _ := HRes.out wr hJ.bel
  clear HX
  obtain ⟨sa, scap, hu8⟩ := hJ.sta.sl
  rw [List.length_reverse] at hu8
  subst hu8
  have hsl := hS.dep
  have hsz9 := size_le x.op
  have ha4 : a ≤ 4000 := by omega
  conv => arg 2; whnf
  go_upto_block 2 with (first | (go_at_call 49; refine (W2 _).mono ?_; rintro e0 w' ⟨rfl, hw'⟩; obtain rfl := hw'.symm))
  have e := E0.out.symm
  clear E0
  rw [e]
  have hsz : sizeOp 12 = 1 := rfl
  rw [hsz]
  obtain ⟨k', st', cl', jj, t, kq, f', g1, g2, g3, g4, g5⟩ := hstep (by omega)
  cases st with
  | nil =>
    exfalso
    unfold stepK at g2
    rw [e] at g2
    cases g2
  | cons v r =>
    have g2' : some ((1 - v) :: r, cl, false) = some (st', cl', jj) := by rw [← g2]; unfold stepK; rw [e]; rfl
    simp only [Option.some.injEq, Prod.mk.injEq] at g2'
    obtain ⟨rfl, rfl, rfl⟩ := g2'
    obtain ⟨g, cap, hform, hcap⟩ := hJ.form
    simp only [List.length_cons, Value.slice.injEq] at hform
    obtain ⟨rfl, -, rfl⟩ := hform
    have hsl' : r.length + 1 ≤ 24 := hsl
    obtain ⟨htop, hfz⟩ := RJ.top (v := v) (r := r) hJ
    have hfz0 := hfz r.length
    have hin : (0 : Int) ≤ (r.length : Int) + 1 - 1 ∧ (r.length : Int) + 1 - 1 < (r.length : Int) + 1 := by omega
    have hin2 : (0 : Int) ≤ (r.length : Int) + 1 - 1 ∧ (r.length : Int) + 1 - 1 ≤ (scap : Int) := by omega
    have hv01 : v = 0 ∨ v = 1 := by
      have ht := takes_st (want := [2]) (more := [2]) (k := k) (k' := k') (by rw [← g1, e]; rfl)
      have htt := hS.fit.typ
      rw [ht.1] at htt
      exact htt.1.2 rfl
    rw [if_neg (by decide), e, hsz] at g3
    have HA : Hid (a + 1 < b.length) := by
      have := (pl_lt l3 g5.hi).2
      rw [g3, hpl] at this
      exact this
    have HN : Hid (RJX b ins fl cp gf w4 (wr.setCell ⟨g, r.length, none⟩ (.int .i64 (1 - v))) A Ru St (a + 1) (q + 1) (.slice (some ⟨g, 0, none⟩) (r.length + 1) scap)) := ⟨C, t, kq, _, cl, f', hG, by rw [g3, hpl], g5, RJ.set1 (v := v) (r := r) hJ (1 - v)⟩
    clear hJ hS hstop hstep g1 g2 g3 g4 g5 hG hab hxo hfz
    go_wp2_with fail
    skip
    skip
    refine ⟨?_, by have := HA.out; simp [JMu, intOf]; omega⟩
    unfold JI
    refine ⟨_, _, _, _, _, _, _, _, _, _, _, _, _, _, _, _, _, _, _, _, _, _, _, _, _, _, _, _, _, _, _, _, _, _, _, _, _, _, _, _, _, _, _, _, _, _, _, _, _, _, _, _, _, _, _, _, _, _, _, _, _, _, _, _, _, _, _, _, _, _, _, _, _, _, _, _, _, _, _, _, _, _, _, _, _, _, _, _, _, _, _, _, _, _, _, _, _, _, _, _, _, _, _, _, _, _, _, _, _, _, _, _, _, _, _, _, _, _, _, _, _, _, _, _, _, _, _, _, _, _, _, _, _, _, _, _, _, _, _, _, _, _, _, _, _, _, _, _, _, _, _, _, _, _, _, _, _, _, _, _, _, _, _, _, _, _, _, _, _, _, _, _, _, _, _, _, _, _, _, _, _, _, _, _, _, _, _, _, _, _, _, _, _, _, _, _, _, _, _, _, _, _, _, _, _, _, _, _, _, _, _, _, _, ?_, rfl⟩
    exact ⟨a + 1, q + 1, by go_num, by go_num, HN.out.below (by first | exact Below.refl _ _ | exact below_drewN (Below.refl _ _) _ | exact (Below.refl _ _).drew)⟩
end Go.Proofs.YtfkdailfcmnjlaaGreatDoor

namespace Go.Proofs.YtfkdailfcmnjlaaGreatDoor
open Go Go.RowKit
set_option maxRecDepth 100000
attribute [local go_sem ↓] Go.wp_at_zero Go.wp_at_succ
set_option maxHeartbeats 8000000 in
set_option maxRecDepth 1000000 in
theorem rj_13 {b : List UInt8} {ins : List Ins} {fl : List Int} {cp gf : Nat} {w w4 wr : World} {A : Bool} {Ru St a q : Nat} {vs : Value} (c1 c2 c3 c4 c5 c17 c18 c19 c20 c21 : Value) (u13 u14 u15 u16 u22 u23 u24 u25 u26 u27 u28 u29 u30 u31 u32 u33 u34 u35 u36 u37 u38 u39 u40 u41 u42 u43 u44 u45 u46 u47 u48 u49 u50 u51 u52 u53 u54 u55 u56 u57 u58 u59 u60 u61 u62 u63 u64 u65 u66 u67 u68 u69 u70 u71 u72 u73 u74 u75 u76 u77 u78 u79 u80 u81 u82 u83 u84 u85 u86 u87 u88 u89 u90 u91 u92 u93 u94 u95 u96 u97 u98 u99 u100 u101 u102 u103 u104 u105 u106 u107 u108 u109 u110 u111 u112 u113 u114 u115 u116 u117 u118 u119 u120 u121 u122 u123 u124 u125 u126 u127 u128 u129 u130 u131 u132 u133 u134 u135 u136 u137 u138 u139 u140 u141 u142 u143 u144 u145 u146 u147 u148 u149 u150 u151 u152 u153 u154 u155 u156 u157 u158 u159 u160 u161 u162 u163 u164 u165 u166 u167 u168 u169 u170 u171 u172 u173 u174 u175 u176 u177 u178 u179 u180 u181 u182 u183 u184 u185 u186 u187 u188 u189 u190 u191 u192 u193 u194 u195 u196 u197 u198 u199 u200 u201 u202 u203 u204 u205 u206 u207 u208 u209 u210 u211 u212 u213 u214 u215 u216 u217 u218 u219 u220 u221 u222 u223 u224 u225 u226 u227 : Value) (hld : loadOf b = some ins) (hF : FieldsT fl) (hcp : cp < w.heap.size) (HRes : Hid (∀ W, Below w4.heap.size w4 W → W.heap[w.heap.size + 1 + 1]? = some (.cells #[.bool false, .int .i64 0, .int .i64 0] 40 (0, 0)) ∧ Below w.heap.size w W)) (HX : Hid (RJX b ins fl cp gf w4 wr A Ru St a q vs)) (hNN : byteAt b a = 13) :
    Code.wp Tryz.prog ((Tryz.f26.body.bind loopIn).getD .skip) (Exit.then (fun a' w'' => JI b ins fl cp gf w w4 A Ru St c1 c2 c3 c4 c5 c17 c18 c19 c20 c21 a' w'' ∧ JMu b a' w'' < b.length - a) (JQ (JRj b w A Ru St))) ⟨#[.pointer (some ⟨cp, 0, none⟩), c1, c2, c3, c4, c5, .pointer (some ⟨w.heap.size + 1 + 1, 0, none⟩), .slice (some ⟨gf, 0, none⟩) 9 9, vs, .slice (some ⟨w4.heap.size, 0, none⟩) 256 256, .slice (some ⟨w4.heap.size + 1, 0, none⟩) 5 5, .int .i64 a, .int .i64 q, u13, u14, u15, u16, c17, c18, c19, c20, c21, u22, u23, u24, u25, u26, u27, u28, u29, u30, u31, u32, u33, u34, u35, u36, u37, u38, u39, u40, u41, u42, u43, u44, u45, u46, u47, u48, u49, u50, u51, u52, u53, u54, u55, u56, u57, u58, u59, u60, u61, u62, u63, u64, u65, u66, u67, u68, u69, u70, u71, u72, u73, u74, u75, u76, u77, u78, u79, u80, u81, u82, u83, u84, u85, u86, u87, u88, u89, u90, u91, u92, u93, u94, u95, u96, u97, u98, u99, u100, u101, u102, u103, u104, u105, u106, u107, u108, u109, u110, u111, u112, u113, u114, u115, u116, u117, u118, u119, u120, u121, u122, u123, u124, u125, u126, u127, u128, u129, u130, u131, u132, u133, u134, u135, u136, u137, u138, u139, u140, u141, u142, u143, u144, u145, u146, u147, u148, u149, u150, u151, u152, u153, u154, u155, u156, u157, u158, u159, u160, u161, u162, u163, u164, u165, u166, u167, u168, u169, u170, u171, u172, u173, u174, u175, u176, u177, u178, u179, u180, u181, u182, u183, u184, u185, u186, u187, u188, u189, u190, u191, u192, u193, u194, u195, u196, u197, u198, u199, u200, u201, u202, u203, u204, u205, u206, u207, u208, u209, u210, u211, u212, u213, u214, u215, u216, u217, u218, u219, u220, u221, u222, u223, u224, u225, u226, u227], []⟩ wr := by
  obtain ⟨l1, l2, l3, l4, l5, l6, C0, l7, l8⟩ := load_known hld
  have HFL : Hid _ := hF
  have HLD : Hid _ := hld
  clear l7 l8 hF hld
  obtain ⟨C, i, k, st, cl, f, hG, hpl, hS, hJ⟩ := HX.out
  have hxo := l3.each _ (getD_ins hS.hi)
  have hab := at_b hxo
  have hplt := (pl_lt l3 hS.hi).2
  have hstop := hS.stop
  have hstep := hS.step l3 rfl l6 HFL.out hG
  have hop := (num_ok hxo).op
  rw [hpl] at hab hplt
  have hcc : wr.cell? ⟨cp, 0, none⟩ = some (S b) := cell_of_row wr cp 0 _ _ _ hJ.code
  have hex := ex_drop b (a := a)
  have hq0 : (0 : Int) ≤ (a : Int) ∧ (a : Int) ≤ (b.length : Int) := by omega
  have hqs : q ≤ 4000 := by have := hS.le; have := hS.hi; omega
  have e0 : byteAt b a = (ins.getD i noIns).op := by rw [← hab.b0, byte_drop]; rfl
  rw [hNN] at e0
  generalize ins.getD i noIns = x at *
  generalize b.drop a = bb at *
  have E0 : Hid _ := e0
  clear e0 hNN
  have hb0 : 0 < (ByteArray.mk bb.toArray).size := hab.pos
  have hv0 : ((ByteArray.mk bb.toArray)[0]).toNat = x.op := (ba_at bb 0 hb0).trans hab.b0
  have hbp := hab.pos
  have hb4 : bb.length ≤ 4000 := by have := hab.len; omega
  have W2 := fun w => size_any x.op (by omega) w
  have HRs : Hid _ := HRes.out wr hJ.bel
  clear HX
  obtain ⟨sa, scap, hu8⟩ := hJ.sta.sl
  rw [List.length_reverse] at hu8
  subst hu8
  have hsl := hS.dep
  have hsz9 := size_le x.op
  have ha4 : a ≤ 4000 := by omega
  conv => arg 2; whnf
  go_upto_block 2 with (first | (go_at_call 49; refine (W2 _).mono ?_; rintro e0 w' ⟨rfl, hw'⟩; obtain rfl := hw'.symm))
  have e := E0.out.symm
  clear E0
  rw [e]
  have hsz : sizeOp 13 = 1 := rfl
  rw [hsz]
  obtain ⟨k', st', cl', jj, t, kq, f', g1, g2, g3, g4, g5⟩ := hstep (by omega)
  match st, hsl, hS, hJ, g2 with
  | [], _, _, _, g2 => exfalso; unfold stepK at g2; rw [e] at g2; cases g2
  | [v], _, _, _, g2 => exfalso; unfold stepK at g2; rw [e] at g2; cases g2
  | v :: u :: r, hsl, hS, hJ, g2 =>
    have g2' : some (twoOp 13 u v :: r, cl, false) = some (st', cl', jj) := by rw [← g2]; unfold stepK; rw [e]; rfl
    simp only [Option.some.injEq, Prod.mk.injEq] at g2'
    obtain ⟨rfl, rfl, rfl⟩ := g2'
    obtain ⟨g, cap, hform, hcap⟩ := hJ.form
    simp only [List.length_cons, Value.slice.injEq] at hform
    obtain ⟨rfl, -, rfl⟩ := hform
    have hsl' : r.length + 1 + 1 ≤ 24 := hsl
    obtain ⟨htop, hfz⟩ := RJ.top (v := v) (r := u :: r) hJ
    have htop : wr.cell? ⟨g, r.length + 1, none⟩ = some (.int .i64 v) := htop
    have hsec := RJ.sec (v := v) (u := u) (r := r) hJ
    have hfz0 := hfz r.length
    have hIn : In64 u ∧ In64 v := by
      have htt := hS.fit.typ
      cases hks : k.st with
      | nil => rw [hks] at htt; exact htt.elim
      | cons t0 ts =>
        rw [hks] at htt
        cases hks2 : ts with
        | nil => rw [hks2] at htt; exact htt.2.elim
        | cons t1 ts2 => rw [hks2] at htt; exact ⟨htt.2.1.1, htt.1.1⟩
    have W3 := fun w => two_any [97, 110, 100] hIn.1 hIn.2 w
    have htw : twoI [97, 110, 100] u v = twoOp 13 u v := rfl
    rw [htw] at W3
    have hin : (0 : Int) ≤ (r.length : Int) + 1 + 1 - 1 ∧ (r.length : Int) + 1 + 1 - 1 < (r.length : Int) + 1 + 1 := by omega
    have hin1 : (0 : Int) ≤ (r.length : Int) + 1 + 1 - 2 ∧ (r.length : Int) + 1 + 1 - 2 < (r.length : Int) + 1 + 1 := by omega
    have hcap' : r.length + 1 + 1 ≤ scap := hcap
    have hin2 : (0 : Int) ≤ (r.length : Int) + 1 + 1 - 1 ∧ (r.length : Int) + 1 + 1 - 1 ≤ (scap : Int) := by omega
    have hin3 : (0 : Int) ≤ (r.length : Int) ∧ (r.length : Int) < (r.length : Int) + 1 + 1 := by omega
    have hin4 : (0 : Int) ≤ (r.length : Int) + 1 ∧ (r.length : Int) + 1 < (r.length : Int) + 1 + 1 := by omega
    have hw1 : IntKind.i64.wrap ((r.length : Int) + 1 + 1 - 2) = (r.length : Int) := by rw [IntKind.wrap_i64]; omega
    have hw2 : IntKind.i64.wrap ((r.length : Int) + 1 + 1 - 1) = (r.length : Int) + 1 := by rw [IntKind.wrap_i64]; omega
    have hw5 : IntKind.i64.wrap ((r.length : Int) + 1) = (r.length : Int) + 1 := by rw [IntKind.wrap_i64]; omega
    have hw6 : IntKind.i64.wrap (r.length : Int) = (r.length : Int) := by rw [IntKind.wrap_i64]; omega
    have hw7 : IntKind.i64.wrap (13 - 7) = 13 - 7 := by decide
    have hw8 : IntKind.i64.wrap 0 = 0 := by decide
    have hw3 : RowKit.wrap64 ((r.length : Int) + 1 + 1 - 2) = (r.length : Int) := by unfold RowKit.wrap64; omega
    have hw4 : RowKit.wrap64 ((r.length : Int) + 1 + 1 - 1) = (r.length : Int) + 1 := by unfold RowKit.wrap64; omega
    rw [if_neg (by decide), e, hsz] at g3
    have HA : Hid (a + 1 < b.length) := by
      have := (pl_lt l3 g5.hi).2
      rw [g3, hpl] at this
      exact this
    have HN : Hid (RJX b ins fl cp gf w4 (wr.setCell ⟨g, r.length, none⟩ (.int .i64 (twoOp 13 u v))) A Ru St (a + 1) (q + 1) (.slice (some ⟨g, 0, none⟩) (r.length + 1) scap)) := ⟨C, t, kq, _, cl, f', hG, by rw [g3, hpl], g5, RJ.pop (v := v) (r := twoOp 13 u v :: r) (RJ.set2 (v := v) (u := u) (r := r) hJ (twoOp 13 u v))⟩
    have hS0 : wr.cell? ⟨g, r.length + 1, none⟩ = some (.int .i64 v) ∧ wr.cell? ⟨g, r.length, none⟩ = some (.int .i64 u) := ⟨htop, hsec⟩
    generalize twoOp 13 u v = y at *
    clear hJ hS hstop hstep g1 g2 g3 g4 g5 hG hab hxo hfz
    go_wp2_with fail
    go_region_with (first | (go_at_call 51; refine (W3 _).mono ?_; rintro e w2 ⟨rfl, rfl⟩))
    all_goals go_wp2
    all_goals refine ⟨?_, by have := HA.out; simp [JMu, intOf]; omega⟩
    all_goals unfold JI
    all_goals refine ⟨_, _, _, _, _, _, _, _, _, _, _, _, _, _, _, _, _, _, _, _, _, _, _, _, _, _, _, _, _, _, _, _, _, _, _, _, _, _, _, _, _, _, _, _, _, _, _, _, _, _, _, _, _, _, _, _, _, _, _, _, _, _, _, _, _, _, _, _, _, _, _, _, _, _, _, _, _, _, _, _, _, _, _, _, _, _, _, _, _, _, _, _, _, _, _, _, _, _, _, _, _, _, _, _, _, _, _, _, _, _, _, _, _, _, _, _, _, _, _, _, _, _, _, _, _, _, _, _, _, _, _, _, _, _, _, _, _, _, _, _, _, _, _, _, _, _, _, _, _, _, _, _, _, _, _, _, _, _, _, _, _, _, _, _, _, _, _, _, _, _, _, _, _, _, _, _, _, _, _, _, _, _, _, _, _, _, _, _, _, _, _, _, _, _, _, _, _, _, _, _, _, _, _, _, _, _, _, _, _, _, _, _, _, ?_, rfl⟩
    all_goals exact ⟨a + 1, q + 1, by go_num, by go_num, HN.out.below (by first | exact Below.refl _ _ | exact below_drewN (Below.refl _ _) _ | exact (Below.refl _ _).drew)⟩
end Go.Proofs.YtfkdailfcmnjlaaGreatDoor

namespace Go.Proofs.YtfkdailfcmnjlaaGreatDoor
open Go Go.RowKit
set_option maxRecDepth 100000
attribute [local go_sem ↓] Go.wp_at_zero Go.wp_at_succ
set_option maxHeartbeats 8000000 in
set_option maxRecDepth 1000000 in
theorem rj_14 {b : List UInt8} {ins : List Ins} {fl : List Int} {cp gf : Nat} {w w4 wr : World} {A : Bool} {Ru St a q : Nat} {vs : Value} (c1 c2 c3 c4 c5 c17 c18 c19 c20 c21 : Value) (u13 u14 u15 u16 u22 u23 u24 u25 u26 u27 u28 u29 u30 u31 u32 u33 u34 u35 u36 u37 u38 u39 u40 u41 u42 u43 u44 u45 u46 u47 u48 u49 u50 u51 u52 u53 u54 u55 u56 u57 u58 u59 u60 u61 u62 u63 u64 u65 u66 u67 u68 u69 u70 u71 u72 u73 u74 u75 u76 u77 u78 u79 u80 u81 u82 u83 u84 u85 u86 u87 u88 u89 u90 u91 u92 u93 u94 u95 u96 u97 u98 u99 u100 u101 u102 u103 u104 u105 u106 u107 u108 u109 u110 u111 u112 u113 u114 u115 u116 u117 u118 u119 u120 u121 u122 u123 u124 u125 u126 u127 u128 u129 u130 u131 u132 u133 u134 u135 u136 u137 u138 u139 u140 u141 u142 u143 u144 u145 u146 u147 u148 u149 u150 u151 u152 u153 u154 u155 u156 u157 u158 u159 u160 u161 u162 u163 u164 u165 u166 u167 u168 u169 u170 u171 u172 u173 u174 u175 u176 u177 u178 u179 u180 u181 u182 u183 u184 u185 u186 u187 u188 u189 u190 u191 u192 u193 u194 u195 u196 u197 u198 u199 u200 u201 u202 u203 u204 u205 u206 u207 u208 u209 u210 u211 u212 u213 u214 u215 u216 u217 u218 u219 u220 u221 u222 u223 u224 u225 u226 u227 : Value) (hld : loadOf b = some ins) (hF : FieldsT fl) (hcp : cp < w.heap.size) (HRes : Hid (∀ W, Below w4.heap.size w4 W → W.heap[w.heap.size + 1 + 1]? = some (.cells #[.bool false, .int .i64 0, .int .i64 0] 40 (0, 0)) ∧ Below w.heap.size w W)) (HX : Hid (RJX b ins fl cp gf w4 wr A Ru St a q vs)) (hNN : byteAt b a = 14) :
    Code.wp Tryz.prog ((Tryz.f26.body.bind loopIn).getD .skip) (Exit.then (fun a' w'' => JI b ins fl cp gf w w4 A Ru St c1 c2 c3 c4 c5 c17 c18 c19 c20 c21 a' w'' ∧ JMu b a' w'' < b.length - a) (JQ (JRj b w A Ru St))) ⟨#[.pointer (some ⟨cp, 0, none⟩), c1, c2, c3, c4, c5, .pointer (some ⟨w.heap.size + 1 + 1, 0, none⟩), .slice (some ⟨gf, 0, none⟩) 9 9, vs, .slice (some ⟨w4.heap.size, 0, none⟩) 256 256, .slice (some ⟨w4.heap.size + 1, 0, none⟩) 5 5, .int .i64 a, .int .i64 q, u13, u14, u15, u16, c17, c18, c19, c20, c21, u22, u23, u24, u25, u26, u27, u28, u29, u30, u31, u32, u33, u34, u35, u36, u37, u38, u39, u40, u41, u42, u43, u44, u45, u46, u47, u48, u49, u50, u51, u52, u53, u54, u55, u56, u57, u58, u59, u60, u61, u62, u63, u64, u65, u66, u67, u68, u69, u70, u71, u72, u73, u74, u75, u76, u77, u78, u79, u80, u81, u82, u83, u84, u85, u86, u87, u88, u89, u90, u91, u92, u93, u94, u95, u96, u97, u98, u99, u100, u101, u102, u103, u104, u105, u106, u107, u108, u109, u110, u111, u112, u113, u114, u115, u116, u117, u118, u119, u120, u121, u122, u123, u124, u125, u126, u127, u128, u129, u130, u131, u132, u133, u134, u135, u136, u137, u138, u139, u140, u141, u142, u143, u144, u145, u146, u147, u148, u149, u150, u151, u152, u153, u154, u155, u156, u157, u158, u159, u160, u161, u162, u163, u164, u165, u166, u167, u168, u169, u170, u171, u172, u173, u174, u175, u176, u177, u178, u179, u180, u181, u182, u183, u184, u185, u186, u187, u188, u189, u190, u191, u192, u193, u194, u195, u196, u197, u198, u199, u200, u201, u202, u203, u204, u205, u206, u207, u208, u209, u210, u211, u212, u213, u214, u215, u216, u217, u218, u219, u220, u221, u222, u223, u224, u225, u226, u227], []⟩ wr := by
  obtain ⟨l1, l2, l3, l4, l5, l6, C0, l7, l8⟩ := load_known hld
  have HFL : Hid _ := hF
  have HLD : Hid _ := hld
  clear l7 l8 hF hld
  obtain ⟨C, i, k, st, cl, f, hG, hpl, hS, hJ⟩ := HX.out
  have hxo := l3.each _ (getD_ins hS.hi)
  have hab := at_b hxo
  have hplt := (pl_lt l3 hS.hi).2
  have hstop := hS.stop
  have hstep := hS.step l3 rfl l6 HFL.out hG
  have hop := (num_ok hxo).op
  rw [hpl] at hab hplt
  have hcc : wr.cell? ⟨cp, 0, none⟩ = some (S b) := cell_of_row wr cp 0 _ _ _ hJ.code
  have hex := ex_drop b (a := a)
  have hq0 : (0 : Int) ≤ (a : Int) ∧ (a : Int) ≤ (b.length : Int) := by omega
  have hqs : q ≤ 4000 := by have := hS.le; have := hS.hi; omega
  have e0 : byteAt b a = (ins.getD i noIns).op := by rw [← hab.b0, byte_drop]; rfl
  rw [hNN] at e0
  generalize ins.getD i noIns = x at *
  generalize b.drop a = bb at *
  have E0 : Hid _ := e0
  clear e0 hNN
  have hb0 : 0 < (ByteArray.mk bb.toArray).size := hab.pos
  have hv0 : ((ByteArray.mk bb.toArray)[0]).toNat = x.op := (ba_at bb 0 hb0).trans hab.b0
  have hbp := hab.pos
  have hb4 : bb.length ≤ 4000 := by have := hab.len; omega
  have W2 := fun w => size_any x.op (by omega) w
  have HRs : Hid _ := HRes.out wr hJ.bel
  clear HX
  obtain ⟨sa, scap, hu8⟩ := hJ.sta.sl
  rw [List.length_reverse] at hu8
  subst hu8
  have hsl := hS.dep
  have hsz9 := size_le x.op
  have ha4 : a ≤ 4000 := by omega
  conv => arg 2; whnf
  go_upto_block 2 with (first | (go_at_call 49; refine (W2 _).mono ?_; rintro e0 w' ⟨rfl, hw'⟩; obtain rfl := hw'.symm))
  have e := E0.out.symm
  clear E0
  rw [e]
  have hsz : sizeOp 14 = 1 := rfl
  rw [hsz]
  obtain ⟨k', st', cl', jj, t, kq, f', g1, g2, g3, g4, g5⟩ := hstep (by omega)
  match st, hsl, hS, hJ, g2 with
  | [], _, _, _, g2 => exfalso; unfold stepK at g2; rw [e] at g2; cases g2
  | [v], _, _, _, g2 => exfalso; unfold stepK at g2; rw [e] at g2; cases g2
  | v :: u :: r, hsl, hS, hJ, g2 =>
    have g2' : some (twoOp 14 u v :: r, cl, false) = some (st', cl', jj) := by rw [← g2]; unfold stepK; rw [e]; rfl
    simp only [Option.some.injEq, Prod.mk.injEq] at g2'
    obtain ⟨rfl, rfl, rfl⟩ := g2'
    obtain ⟨g, cap, hform, hcap⟩ := hJ.form
    simp only [List.length_cons, Value.slice.injEq] at hform
    obtain ⟨rfl, -, rfl⟩ := hform
    have hsl' : r.length + 1 + 1 ≤ 24 := hsl
    obtain ⟨htop, hfz⟩ := RJ.top (v := v) (r := u :: r) hJ
    have htop : wr.cell? ⟨g, r.length + 1, none⟩ = some (.int .i64 v) := htop
    have hsec := RJ.sec (v := v) (u := u) (r := r) hJ
    have hfz0 := hfz r.length
    have hIn : In64 u ∧ In64 v := by
      have htt := hS.fit.typ
      cases hks : k.st with
      | nil => rw [hks] at htt; exact htt.elim
      | cons t0 ts =>
        rw [hks] at htt
        cases hks2 : ts with
        | nil => rw [hks2] at htt; exact htt.2.elim
        | cons t1 ts2 => rw [hks2] at htt; exact ⟨htt.2.1.1, htt.1.1⟩
    have W3 := fun w => two_any [111, 114] hIn.1 hIn.2 w
    have htw : twoI [111, 114] u v = twoOp 14 u v := rfl
    rw [htw] at W3
    have hin : (0 : Int) ≤ (r.length : Int) + 1 + 1 - 1 ∧ (r.length : Int) + 1 + 1 - 1 < (r.length : Int) + 1 + 1 := by omega
    have hin1 : (0 : Int) ≤ (r.length : Int) + 1 + 1 - 2 ∧ (r.length : Int) + 1 + 1 - 2 < (r.length : Int) + 1 + 1 := by omega
    have hcap' : r.length + 1 + 1 ≤ scap := hcap
    have hin2 : (0 : Int) ≤ (r.length : Int) + 1 + 1 - 1 ∧ (r.length : Int) + 1 + 1 - 1 ≤ (scap : Int) := by omega
    have hin3 : (0 : Int) ≤ (r.length : Int) ∧ (r.length : Int) < (r.length : Int) + 1 + 1 := by omega
    have hin4 : (0 : Int) ≤ (r.length : Int) + 1 ∧ (r.length : Int) + 1 < (r.length : Int) + 1 + 1 := by omega
    have hw1 : IntKind.i64.wrap ((r.length : Int) + 1 + 1 - 2) = (r.length : Int) := by rw [IntKind.wrap_i64]; omega
    have hw2 : IntKind.i64.wrap ((r.length : Int) + 1 + 1 - 1) = (r.length : Int) + 1 := by rw [IntKind.wrap_i64]; omega
    have hw5 : IntKind.i64.wrap ((r.length : Int) + 1) = (r.length : Int) + 1 := by rw [IntKind.wrap_i64]; omega
    have hw6 : IntKind.i64.wrap (r.length : Int) = (r.length : Int) := by rw [IntKind.wrap_i64]; omega
    have hw7 : IntKind.i64.wrap (14 - 7) = 14 - 7 := by decide
    have hw8 : IntKind.i64.wrap 0 = 0 := by decide
    have hw3 : RowKit.wrap64 ((r.length : Int) + 1 + 1 - 2) = (r.length : Int) := by unfold RowKit.wrap64; omega
    have hw4 : RowKit.wrap64 ((r.length : Int) + 1 + 1 - 1) = (r.length : Int) + 1 := by unfold RowKit.wrap64; omega
    rw [if_neg (by decide), e, hsz] at g3
    have HA : Hid (a + 1 < b.length) := by
      have := (pl_lt l3 g5.hi).2
      rw [g3, hpl] at this
      exact this
    have HN : Hid (RJX b ins fl cp gf w4 (wr.setCell ⟨g, r.length, none⟩ (.int .i64 (twoOp 14 u v))) A Ru St (a + 1) (q + 1) (.slice (some ⟨g, 0, none⟩) (r.length + 1) scap)) := ⟨C, t, kq, _, cl, f', hG, by rw [g3, hpl], g5, RJ.pop (v := v) (r := twoOp 14 u v :: r) (RJ.set2 (v := v) (u := u) (r := r) hJ (twoOp 14 u v))⟩
    have hS0 : wr.cell? ⟨g, r.length + 1, none⟩ = some (.int .i64 v) ∧ wr.cell? ⟨g, r.length, none⟩ = some (.int .i64 u) := ⟨htop, hsec⟩
    generalize twoOp 14 u v = y at *
    clear hJ hS hstop hstep g1 g2 g3 g4 g5 hG hab hxo hfz
    go_wp2_with fail
    go_region_with (first | (go_at_call 51; refine (W3 _).mono ?_; rintro e w2 ⟨rfl, rfl⟩))
    all_goals go_wp2
    all_goals refine ⟨?_, by have := HA.out; simp [JMu, intOf]; omega⟩
    all_goals unfold JI
    all_goals refine ⟨_, _, _, _, _, _, _, _, _, _, _, _, _, _, _, _, _, _, _, _, _, _, _, _, _, _, _, _, _, _, _, _, _, _, _, _, _, _, _, _, _, _, _, _, _, _, _, _, _, _, _, _, _, _, _, _, _, _, _, _, _, _, _, _, _, _, _, _, _, _, _, _, _, _, _, _, _, _, _, _, _, _, _, _, _, _, _, _, _, _, _, _, _, _, _, _, _, _, _, _, _, _, _, _, _, _, _, _, _, _, _, _, _, _, _, _, _, _, _, _, _, _, _, _, _, _, _, _, _, _, _, _, _, _, _, _, _, _, _, _, _, _, _, _, _, _, _, _, _, _, _, _, _, _, _, _, _, _, _, _, _, _, _, _, _, _, _, _, _, _, _, _, _, _, _, _, _, _, _, _, _, _, _, _, _, _, _, _, _, _, _, _, _, _, _, _, _, _, _, _, _, _, _, _, _, _, _, _, _, _, _, _, _, ?_, rfl⟩
    all_goals exact ⟨a + 1, q + 1, by go_num, by go_num, HN.out.below (by first | exact Below.refl _ _ | exact below_drewN (Below.refl _ _) _ | exact (Below.refl _ _).drew)⟩
end Go.Proofs.YtfkdailfcmnjlaaGreatDoor

namespace Go.Proofs.YtfkdailfcmnjlaaGreatDoor
open Go Go.RowKit
set_option maxRecDepth 100000
attribute [local go_sem ↓] Go.wp_at_zero Go.wp_at_succ
set_option maxHeartbeats 8000000 in
set_option maxRecDepth 1000000 in
theorem rj_15 {b : List UInt8} {ins : List Ins} {fl : List Int} {cp gf : Nat} {w w4 wr : World} {A : Bool} {Ru St a q : Nat} {vs : Value} (c1 c2 c3 c4 c5 c17 c18 c19 c20 c21 : Value) (u13 u14 u15 u16 u22 u23 u24 u25 u26 u27 u28 u29 u30 u31 u32 u33 u34 u35 u36 u37 u38 u39 u40 u41 u42 u43 u44 u45 u46 u47 u48 u49 u50 u51 u52 u53 u54 u55 u56 u57 u58 u59 u60 u61 u62 u63 u64 u65 u66 u67 u68 u69 u70 u71 u72 u73 u74 u75 u76 u77 u78 u79 u80 u81 u82 u83 u84 u85 u86 u87 u88 u89 u90 u91 u92 u93 u94 u95 u96 u97 u98 u99 u100 u101 u102 u103 u104 u105 u106 u107 u108 u109 u110 u111 u112 u113 u114 u115 u116 u117 u118 u119 u120 u121 u122 u123 u124 u125 u126 u127 u128 u129 u130 u131 u132 u133 u134 u135 u136 u137 u138 u139 u140 u141 u142 u143 u144 u145 u146 u147 u148 u149 u150 u151 u152 u153 u154 u155 u156 u157 u158 u159 u160 u161 u162 u163 u164 u165 u166 u167 u168 u169 u170 u171 u172 u173 u174 u175 u176 u177 u178 u179 u180 u181 u182 u183 u184 u185 u186 u187 u188 u189 u190 u191 u192 u193 u194 u195 u196 u197 u198 u199 u200 u201 u202 u203 u204 u205 u206 u207 u208 u209 u210 u211 u212 u213 u214 u215 u216 u217 u218 u219 u220 u221 u222 u223 u224 u225 u226 u227 : Value) (hld : loadOf b = some ins) (hF : FieldsT fl) (hcp : cp < w.heap.size) (HRes : Hid (∀ W, Below w4.heap.size w4 W → W.heap[w.heap.size + 1 + 1]? = some (.cells #[.bool false, .int .i64 0, .int .i64 0] 40 (0, 0)) ∧ Below w.heap.size w W)) (HX : Hid (RJX b ins fl cp gf w4 wr A Ru St a q vs)) (hNN : byteAt b a = 15) :
    Code.wp Tryz.prog ((Tryz.f26.body.bind loopIn).getD .skip) (Exit.then (fun a' w'' => JI b ins fl cp gf w w4 A Ru St c1 c2 c3 c4 c5 c17 c18 c19 c20 c21 a' w'' ∧ JMu b a' w'' < b.length - a) (JQ (JRj b w A Ru St))) ⟨#[.pointer (some ⟨cp, 0, none⟩), c1, c2, c3, c4, c5, .pointer (some ⟨w.heap.size + 1 + 1, 0, none⟩), .slice (some ⟨gf, 0, none⟩) 9 9, vs, .slice (some ⟨w4.heap.size, 0, none⟩) 256 256, .slice (some ⟨w4.heap.size + 1, 0, none⟩) 5 5, .int .i64 a, .int .i64 q, u13, u14, u15, u16, c17, c18, c19, c20, c21, u22, u23, u24, u25, u26, u27, u28, u29, u30, u31, u32, u33, u34, u35, u36, u37, u38, u39, u40, u41, u42, u43, u44, u45, u46, u47, u48, u49, u50, u51, u52, u53, u54, u55, u56, u57, u58, u59, u60, u61, u62, u63, u64, u65, u66, u67, u68, u69, u70, u71, u72, u73, u74, u75, u76, u77, u78, u79, u80, u81, u82, u83, u84, u85, u86, u87, u88, u89, u90, u91, u92, u93, u94, u95, u96, u97, u98, u99, u100, u101, u102, u103, u104, u105, u106, u107, u108, u109, u110, u111, u112, u113, u114, u115, u116, u117, u118, u119, u120, u121, u122, u123, u124, u125, u126, u127, u128, u129, u130, u131, u132, u133, u134, u135, u136, u137, u138, u139, u140, u141, u142, u143, u144, u145, u146, u147, u148, u149, u150, u151, u152, u153, u154, u155, u156, u157, u158, u159, u160, u161, u162, u163, u164, u165, u166, u167, u168, u169, u170, u171, u172, u173, u174, u175, u176, u177, u178, u179, u180, u181, u182, u183, u184, u185, u186, u187, u188, u189, u190, u191, u192, u193, u194, u195, u196, u197, u198, u199, u200, u201, u202, u203, u204, u205, u206, u207, u208, u209, u210, u211, u212, u213, u214, u215, u216, u217, u218, u219, u220, u221, u222, u223, u224, u225, u226, u227], []⟩ wr := by
  obtain ⟨l1, l2, l3, l4, l5, l6, C0, l7, l8⟩ := load_known hld
  have HFL : Hid _ := hF
  have HLD : Hid _ := hld
  clear l7 l8 hF hld
  obtain ⟨C, i, k, st, cl, f, hG, hpl, hS, hJ⟩ := HX.out
  have hxo := l3.each _ (getD_ins hS.hi)
  have hab := at_b hxo
  have hplt := (pl_lt l3 hS.hi).2
  have hstop := hS.stop
  have hstep := hS.step l3 rfl l6 HFL.out hG
  have hop := (num_ok hxo).op
  rw [hpl] at hab hplt
  have hcc : wr.cell? ⟨cp, 0, none⟩ = some (S b) := cell_of_row wr cp 0 _ _ _ hJ.code
  have hex := ex_drop b (a := a)
  have hq0 : (0 : Int) ≤ (a : Int) ∧ (a : Int) ≤ (b.length : Int) := by omega
  have hqs : q ≤ 4000 := by have := hS.le; have := hS.hi; omega
  have e0 : byteAt b a = (ins.getD i noIns).op := by rw [← hab.b0, byte_drop]; rfl
  rw [hNN] at e0
  generalize ins.getD i noIns = x at *
  generalize b.drop a = bb at *
  have E0 : Hid _ := e0
  clear e0 hNN
  have hb0 : 0 < (ByteArray.mk bb.toArray).size := hab.pos
  have hv0 : ((ByteArray.mk bb.toArray)[0]).toNat = x.op := (ba_at bb 0 hb0).trans hab.b0
  have hbp := hab.pos
  have hb4 : bb.length ≤ 4000 := by have := hab.len; omega
  have W2 := fun w => size_any x.op (by omega) w
  have HRs : Hid _ := HRes.out wr hJ.bel
  clear HX
  obtain ⟨sa, scap, hu8⟩ := hJ.sta.sl
  rw [List.length_reverse] at hu8
  subst hu8
  have hsl := hS.dep
  have hsz9 := size_le x.op
  have ha4 : a ≤ 4000 := by omega
  conv => arg 2; whnf
  go_upto_block 2 with (first | (go_at_call 49; refine (W2 _).mono ?_; rintro e0 w' ⟨rfl, hw'⟩; obtain rfl := hw'.symm))
  have e := E0.out.symm
  clear E0
  rw [e]
  have hsz : sizeOp 15 = 3 := rfl
  rw [hsz]
  obtain ⟨t2, t3, t4, t5⟩ := hab.three (by rw [e]; rfl)
  have hb1 : 1 < (ByteArray.mk bb.toArray).size := by show 1 < bb.length; omega
  have hb2 : 2 < (ByteArray.mk bb.toArray).size := by show 2 < bb.length; omega
  have hv1 : ((ByteArray.mk bb.toArray)[1]).toNat = byteAt bb 1 := ba_at bb 1 hb1
  have hv2 : ((ByteArray.mk bb.toArray)[2]).toNat = byteAt bb 2 := ba_at bb 2 hb2
  have hnn : x.n.toNat = byteAt bb 1 * 256 + byteAt bb 2 := by rw [t3]; omega
  obtain ⟨k', st', cl', jj, t, kq, f', g1, g2, g3, g4, g5⟩ := hstep (by omega)
  cases st with
  | nil =>
    exfalso
    unfold stepK at g2
    rw [e] at g2
    cases g2
  | cons v r =>
    have g2' : some (r, cl, v == 0) = some (st', cl', jj) := by rw [← g2]; unfold stepK; rw [e]; rfl
    simp only [Option.some.injEq, Prod.mk.injEq] at g2'
    obtain ⟨rfl, rfl, rfl⟩ := g2'
    obtain ⟨g, cap, hform, hcap⟩ := hJ.form
    simp only [List.length_cons, Value.slice.injEq] at hform
    obtain ⟨rfl, -, rfl⟩ := hform
    have hsl' : r.length + 1 ≤ 24 := hsl
    obtain ⟨htop, hfz⟩ := RJ.top (v := v) (r := r) hJ
    have hfz0 := hfz r.length
    have hin : (0 : Int) ≤ (r.length : Int) + 1 - 1 ∧ (r.length : Int) + 1 - 1 < (r.length : Int) + 1 := by omega
    have hin2 : (0 : Int) ≤ (r.length : Int) + 1 - 1 ∧ (r.length : Int) + 1 - 1 ≤ (scap : Int) := by omega
    rw [e, hsz, hnn] at g3
    have HN : Hid (∀ p, p = (if (v == 0) = true then a + 3 + (byteAt bb 1 * 256 + byteAt bb 2) else a + 3) → RJX b ins fl cp gf w4 wr A Ru St p (q + 1) (.slice (some ⟨g, 0, none⟩) r.length scap) ∧ p < b.length) := fun p hp => by
      rw [hpl] at g3
      refine ⟨⟨C, t, kq, r, cl, f', hG, by rw [g3, hp], g5, RJ.pop (v := v) (r := r) hJ⟩, ?_⟩
      have := (pl_lt l3 g5.hi).2
      rw [g3, ← hp] at this
      exact this
    have hIn : In64 v := by
      have htt := hS.fit.typ
      cases hks : k.st with
      | nil => rw [hks] at htt; exact htt.elim
      | cons t0 ts => rw [hks] at htt; exact htt.1.1
    clear hJ hS hstop hstep g1 g2 g3 g4 g5 hG hab hxo t3 hfz hnn
    generalize byteAt bb 1 = c1 at *
    generalize byteAt bb 2 = c2 at *
    by_cases hv : v = 0
    · subst hv
      obtain ⟨n1, n2⟩ := HN.out (a + 3 + (c1 * 256 + c2)) (by simp)
      have HN1 : Hid _ := n1
      have HN2 : Hid _ := n2
      
      clear HN n1 n2
      go_wp2_with fail
      go_quiet (fail)
      go_wp2
      refine ⟨?_, by have := HN2.out; simp [JMu, intOf]; omega⟩
      unfold JI
      refine ⟨_, _, _, _, _, _, _, _, _, _, _, _, _, _, _, _, _, _, _, _, _, _, _, _, _, _, _, _, _, _, _, _, _, _, _, _, _, _, _, _, _, _, _, _, _, _, _, _, _, _, _, _, _, _, _, _, _, _, _, _, _, _, _, _, _, _, _, _, _, _, _, _, _, _, _, _, _, _, _, _, _, _, _, _, _, _, _, _, _, _, _, _, _, _, _, _, _, _, _, _, _, _, _, _, _, _, _, _, _, _, _, _, _, _, _, _, _, _, _, _, _, _, _, _, _, _, _, _, _, _, _, _, _, _, _, _, _, _, _, _, _, _, _, _, _, _, _, _, _, _, _, _, _, _, _, _, _, _, _, _, _, _, _, _, _, _, _, _, _, _, _, _, _, _, _, _, _, _, _, _, _, _, _, _, _, _, _, _, _, _, _, _, _, _, _, _, _, _, _, _, _, _, _, _, _, _, _, _, _, _, _, _, _, ?_, rfl⟩
      exact ⟨a + 3 + (c1 * 256 + c2), q + 1, by go_num, by go_num, RJX.below HN1.out (by first | exact Below.refl _ _ | exact below_drewN (Below.refl _ _) _ | exact (Below.refl _ _).drew)⟩
    · skip
      obtain ⟨n1, n2⟩ := HN.out (a + 3) (by simp [hv])
      have HN1 : Hid _ := n1
      have HN2 : Hid _ := n2
      have hvb : (v == 0) = false := by simp [hv]
      clear HN n1 n2
      go_wp2_with fail
      refine ⟨?_, by have := HN2.out; simp [JMu, intOf]; omega⟩
      unfold JI
      refine ⟨_, _, _, _, _, _, _, _, _, _, _, _, _, _, _, _, _, _, _, _, _, _, _, _, _, _, _, _, _, _, _, _, _, _, _, _, _, _, _, _, _, _, _, _, _, _, _, _, _, _, _, _, _, _, _, _, _, _, _, _, _, _, _, _, _, _, _, _, _, _, _, _, _, _, _, _, _, _, _, _, _, _, _, _, _, _, _, _, _, _, _, _, _, _, _, _, _, _, _, _, _, _, _, _, _, _, _, _, _, _, _, _, _, _, _, _, _, _, _, _, _, _, _, _, _, _, _, _, _, _, _, _, _, _, _, _, _, _, _, _, _, _, _, _, _, _, _, _, _, _, _, _, _, _, _, _, _, _, _, _, _, _, _, _, _, _, _, _, _, _, _, _, _, _, _, _, _, _, _, _, _, _, _, _, _, _, _, _, _, _, _, _, _, _, _, _, _, _, _, _, _, _, _, _, _, _, _, _, _, _, _, _, _, ?_, rfl⟩
      exact ⟨a + 3, q + 1, by go_num, by go_num, RJX.below HN1.out (by first | exact Below.refl _ _ | exact below_drewN (Below.refl _ _) _ | exact (Below.refl _ _).drew)⟩
end Go.Proofs.YtfkdailfcmnjlaaGreatDoor

namespace Go.Proofs.YtfkdailfcmnjlaaGreatDoor
open Go Go.RowKit
set_option maxRecDepth 100000
attribute [local go_sem ↓] Go.wp_at_zero Go.wp_at_succ
set_option maxHeartbeats 8000000 in
set_option maxRecDepth 1000000 in
theorem rj_16 {b : List UInt8} {ins : List Ins} {fl : List Int} {cp gf : Nat} {w w4 wr : World} {A : Bool} {Ru St a q : Nat} {vs : Value} (c1 c2 c3 c4 c5 c17 c18 c19 c20 c21 : Value) (u13 u14 u15 u16 u22 u23 u24 u25 u26 u27 u28 u29 u30 u31 u32 u33 u34 u35 u36 u37 u38 u39 u40 u41 u42 u43 u44 u45 u46 u47 u48 u49 u50 u51 u52 u53 u54 u55 u56 u57 u58 u59 u60 u61 u62 u63 u64 u65 u66 u67 u68 u69 u70 u71 u72 u73 u74 u75 u76 u77 u78 u79 u80 u81 u82 u83 u84 u85 u86 u87 u88 u89 u90 u91 u92 u93 u94 u95 u96 u97 u98 u99 u100 u101 u102 u103 u104 u105 u106 u107 u108 u109 u110 u111 u112 u113 u114 u115 u116 u117 u118 u119 u120 u121 u122 u123 u124 u125 u126 u127 u128 u129 u130 u131 u132 u133 u134 u135 u136 u137 u138 u139 u140 u141 u142 u143 u144 u145 u146 u147 u148 u149 u150 u151 u152 u153 u154 u155 u156 u157 u158 u159 u160 u161 u162 u163 u164 u165 u166 u167 u168 u169 u170 u171 u172 u173 u174 u175 u176 u177 u178 u179 u180 u181 u182 u183 u184 u185 u186 u187 u188 u189 u190 u191 u192 u193 u194 u195 u196 u197 u198 u199 u200 u201 u202 u203 u204 u205 u206 u207 u208 u209 u210 u211 u212 u213 u214 u215 u216 u217 u218 u219 u220 u221 u222 u223 u224 u225 u226 u227 : Value) (hld : loadOf b = some ins) (hF : FieldsT fl) (hcp : cp < w.heap.size) (HRes : Hid (∀ W, Below w4.heap.size w4 W → W.heap[w.heap.size + 1 + 1]? = some (.cells #[.bool false, .int .i64 0, .int .i64 0] 40 (0, 0)) ∧ Below w.heap.size w W)) (HX : Hid (RJX b ins fl cp gf w4 wr A Ru St a q vs)) (hNN : byteAt b a = 16) :
    Code.wp Tryz.prog ((Tryz.f26.body.bind loopIn).getD .skip) (Exit.then (fun a' w'' => JI b ins fl cp gf w w4 A Ru St c1 c2 c3 c4 c5 c17 c18 c19 c20 c21 a' w'' ∧ JMu b a' w'' < b.length - a) (JQ (JRj b w A Ru St))) ⟨#[.pointer (some ⟨cp, 0, none⟩), c1, c2, c3, c4, c5, .pointer (some ⟨w.heap.size + 1 + 1, 0, none⟩), .slice (some ⟨gf, 0, none⟩) 9 9, vs, .slice (some ⟨w4.heap.size, 0, none⟩) 256 256, .slice (some ⟨w4.heap.size + 1, 0, none⟩) 5 5, .int .i64 a, .int .i64 q, u13, u14, u15, u16, c17, c18, c19, c20, c21, u22, u23, u24, u25, u26, u27, u28, u29, u30, u31, u32, u33, u34, u35, u36, u37, u38, u39, u40, u41, u42, u43, u44, u45, u46, u47, u48, u49, u50, u51, u52, u53, u54, u55, u56, u57, u58, u59, u60, u61, u62, u63, u64, u65, u66, u67, u68, u69, u70, u71, u72, u73, u74, u75, u76, u77, u78, u79, u80, u81, u82, u83, u84, u85, u86, u87, u88, u89, u90, u91, u92, u93, u94, u95, u96, u97, u98, u99, u100, u101, u102, u103, u104, u105, u106, u107, u108, u109, u110, u111, u112, u113, u114, u115, u116, u117, u118, u119, u120, u121, u122, u123, u124, u125, u126, u127, u128, u129, u130, u131, u132, u133, u134, u135, u136, u137, u138, u139, u140, u141, u142, u143, u144, u145, u146, u147, u148, u149, u150, u151, u152, u153, u154, u155, u156, u157, u158, u159, u160, u161, u162, u163, u164, u165, u166, u167, u168, u169, u170, u171, u172, u173, u174, u175, u176, u177, u178, u179, u180, u181, u182, u183, u184, u185, u186, u187, u188, u189, u190, u191, u192, u193, u194, u195, u196, u197, u198, u199, u200, u201, u202, u203, u204, u205, u206, u207, u208, u209, u210, u211, u212, u213, u214, u215, u216, u217, u218, u219, u220, u221, u222, u223, u224, u225, u226, u227], []⟩ wr := by
  obtain ⟨l1, l2, l3, l4, l5, l6, C0, l7, l8⟩ := load_known hld
  have HFL : Hid _ := hF
  have HLD : Hid _ := hld
  clear l7 l8 hF hld
  obtain ⟨C, i, k, st, cl, f, hG, hpl, hS, hJ⟩ := HX.out
  have hxo := l3.each _ (getD_ins hS.hi)
  have hab := at_b hxo
  have hplt := (pl_lt l3 hS.hi).2
  have hstop := hS.stop
  have hstep := hS.step l3 rfl l6 HFL.out hG
  have hop := (num_ok hxo).op
  rw [hpl] at hab hplt
  have hcc : wr.cell? ⟨cp, 0, none⟩ = some (S b) := cell_of_row wr cp 0 _ _ _ hJ.code
  have hex := ex_drop b (a := a)
  have hq0 : (0 : Int) ≤ (a : Int) ∧ (a : Int) ≤ (b.length : Int) := by omega
  have hqs : q ≤ 4000 := by have := hS.le; have := hS.hi; omega
  have e0 : byteAt b a = (ins.getD i noIns).op := by rw [← hab.b0, byte_drop]; rfl
  rw [hNN] at e0
  generalize ins.getD i noIns = x at *
  generalize b.drop a = bb at *
  have E0 : Hid _ := e0
  clear e0 hNN
  have hb0 : 0 < (ByteArray.mk bb.toArray).size := hab.pos
  have hv0 : ((ByteArray.mk bb.toArray)[0]).toNat = x.op := (ba_at bb 0 hb0).trans hab.b0
  have hbp := hab.pos
  have hb4 : bb.length ≤ 4000 := by have := hab.len; omega
  have W2 := fun w => size_any x.op (by omega) w
  have HRs : Hid _ := HRes.out wr hJ.bel
  clear HX
  obtain ⟨sa, scap, hu8⟩ := hJ.sta.sl
  rw [List.length_reverse] at hu8
  subst hu8
  have hsl := hS.dep
  have hsz9 := size_le x.op
  have ha4 : a ≤ 4000 := by omega
  conv => arg 2; whnf
  go_upto_block 2 with (first | (go_at_call 49; refine (W2 _).mono ?_; rintro e0 w' ⟨rfl, hw'⟩; obtain rfl := hw'.symm))
  have e := E0.out.symm
  clear E0
  rw [e]
  have hsz : sizeOp 16 = 3 := rfl
  rw [hsz]
  obtain ⟨t2, t3, t4, t5⟩ := hab.three (by rw [e]; rfl)
  have hb1 : 1 < (ByteArray.mk bb.toArray).size := by show 1 < bb.length; omega
  have hb2 : 2 < (ByteArray.mk bb.toArray).size := by show 2 < bb.length; omega
  have hv1 : ((ByteArray.mk bb.toArray)[1]).toNat = byteAt bb 1 := ba_at bb 1 hb1
  have hv2 : ((ByteArray.mk bb.toArray)[2]).toNat = byteAt bb 2 := ba_at bb 2 hb2
  obtain ⟨k', st', cl', jj, t, kq, f', g1, g2, g3, g4, g5⟩ := hstep (by omega)
  have g2' : some (st, cl, true) = some (st', cl', jj) := by rw [← g2]; unfold stepK; rw [e]; rfl
  simp only [Option.some.injEq, Prod.mk.injEq] at g2'
  obtain ⟨rfl, rfl, rfl⟩ := g2'
  rw [if_pos rfl] at g3
  have HN : Hid (RJX b ins fl cp gf w4 wr A Ru St (a + 3 + (byteAt bb 1 * 256 + byteAt bb 2)) (q + 1) (.slice sa st.length scap)) := ⟨C, t, kq, st, cl, f', hG, by rw [g3, hpl, t3]; omega, g5, hJ⟩
  have HA : Hid (a + 3 + (byteAt bb 1 * 256 + byteAt bb 2) < b.length) := by
    have := (pl_lt l3 g5.hi).2
    rw [g3, hpl, t3] at this
    show _ < _
    omega
  clear hJ hS hstop hstep g1 g2 g3 g4 g5 hG hab hxo t3
  generalize byteAt bb 1 = c1 at *
  generalize byteAt bb 2 = c2 at *
  go_wp2_with fail
  go_quiet (fail)
  go_wp2
  refine ⟨?_, by have := HA.out; simp [JMu, intOf]; omega⟩
  unfold JI
  refine ⟨_, _, _, _, _, _, _, _, _, _, _, _, _, _, _, _, _, _, _, _, _, _, _, _, _, _, _, _, _, _, _, _, _, _, _, _, _, _, _, _, _, _, _, _, _, _, _, _, _, _, _, _, _, _, _, _, _, _, _, _, _, _, _, _, _, _, _, _, _, _, _, _, _, _, _, _, _, _, _, _, _, _, _, _, _, _, _, _, _, _, _, _, _, _, _, _, _, _, _, _, _, _, _, _, _, _, _, _, _, _, _, _, _, _, _, _, _, _, _, _, _, _, _, _, _, _, _, _, _, _, _, _, _, _, _, _, _, _, _, _, _, _, _, _, _, _, _, _, _, _, _, _, _, _, _, _, _, _, _, _, _, _, _, _, _, _, _, _, _, _, _, _, _, _, _, _, _, _, _, _, _, _, _, _, _, _, _, _, _, _, _, _, _, _, _, _, _, _, _, _, _, _, _, _, _, _, _, _, _, _, _, _, _, ?_, rfl⟩
  exact ⟨a + 3 + (c1 * 256 + c2), q + 1, by go_num, by go_num, HN.out.below (below_drewN (Below.refl _ _) _)⟩
end Go.Proofs.YtfkdailfcmnjlaaGreatDoor
