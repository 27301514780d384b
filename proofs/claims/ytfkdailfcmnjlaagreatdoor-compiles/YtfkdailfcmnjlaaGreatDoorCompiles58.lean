/-
  A round of the document's Judge: one kind of instruction. A round of the document's Judge: one kind of instruction. The round of the document's Judge, and its loop. The document's Judge. What both judge of a code that both have.
-/
import Derived.Test.YtfkdailfcmnjlaaGreatDoorCompiles01
import Derived.Test.YtfkdailfcmnjlaaGreatDoorCompiles02
import Derived.Test.YtfkdailfcmnjlaaGreatDoorCompiles04
import Derived.Test.YtfkdailfcmnjlaaGreatDoorCompiles05
import Derived.Test.YtfkdailfcmnjlaaGreatDoorCompiles06
import Derived.Test.YtfkdailfcmnjlaaGreatDoorCompiles07
import Derived.Test.YtfkdailfcmnjlaaGreatDoorCompiles08
import Derived.Test.YtfkdailfcmnjlaaGreatDoorCompiles09
import Derived.Test.YtfkdailfcmnjlaaGreatDoorCompiles10
import Derived.Test.YtfkdailfcmnjlaaGreatDoorCompiles11
import Derived.Test.YtfkdailfcmnjlaaGreatDoorCompiles12
import Derived.Test.YtfkdailfcmnjlaaGreatDoorCompiles13
import Derived.Test.YtfkdailfcmnjlaaGreatDoorCompiles14
import Derived.Test.YtfkdailfcmnjlaaGreatDoorCompiles15
import Derived.Test.YtfkdailfcmnjlaaGreatDoorCompiles16
import Derived.Test.YtfkdailfcmnjlaaGreatDoorCompiles17
import Derived.Test.YtfkdailfcmnjlaaGreatDoorCompiles18
import Derived.Test.YtfkdailfcmnjlaaGreatDoorCompiles19
import Derived.Test.YtfkdailfcmnjlaaGreatDoorCompiles20
import Derived.Test.YtfkdailfcmnjlaaGreatDoorCompiles21
import Derived.Test.YtfkdailfcmnjlaaGreatDoorCompiles22
import Derived.Test.YtfkdailfcmnjlaaGreatDoorCompiles23
import Derived.Test.YtfkdailfcmnjlaaGreatDoorCompiles24
import Derived.Test.YtfkdailfcmnjlaaGreatDoorCompiles27
import Derived.Test.YtfkdailfcmnjlaaGreatDoorCompiles28
import Derived.Test.YtfkdailfcmnjlaaGreatDoorCompiles29
import Derived.Test.YtfkdailfcmnjlaaGreatDoorCompiles30
import Derived.Test.YtfkdailfcmnjlaaGreatDoorCompiles31
import Derived.Test.YtfkdailfcmnjlaaGreatDoorCompiles32
import Derived.Test.YtfkdailfcmnjlaaGreatDoorCompiles34
import Derived.Test.YtfkdailfcmnjlaaGreatDoorCompiles35
import Derived.Test.YtfkdailfcmnjlaaGreatDoorCompiles36
import Derived.Test.YtfkdailfcmnjlaaGreatDoorCompiles37
import Derived.Test.YtfkdailfcmnjlaaGreatDoorCompiles38
import Derived.Test.YtfkdailfcmnjlaaGreatDoorCompiles39
import Derived.Test.YtfkdailfcmnjlaaGreatDoorCompiles40
import Derived.Test.YtfkdailfcmnjlaaGreatDoorCompiles41
import Derived.Test.YtfkdailfcmnjlaaGreatDoorCompiles43
import Derived.Test.YtfkdailfcmnjlaaGreatDoorCompiles44
import Derived.Test.YtfkdailfcmnjlaaGreatDoorCompiles45
import Derived.Test.YtfkdailfcmnjlaaGreatDoorCompiles53
import Derived.Test.YtfkdailfcmnjlaaGreatDoorCompiles54
import Derived.Test.YtfkdailfcmnjlaaGreatDoorCompiles55
import Derived.Test.YtfkdailfcmnjlaaGreatDoorCompiles56
import Derived.Test.YtfkdailfcmnjlaaGreatDoorCompiles57
import Derived.Test.YtfkdailfcmnjlaaGreatDoorLays
import Derived.Test.YtfkdailfcmnjlaaGreatDoorLays2
import Derived.WalkKit
import Derived.Deep.QuietTactic
import Derived.BigQuiet
import Derived.WalkSpells
import GoSem.Op.String
import Derived.Deep.AppendLies
import Derived.Deep.RegionHeld3
import Derived.Deep.DrawnRows
import Derived.Deep.RegionHeldLaw
import Derived.Deep.RegionLaw
import Derived.Lib.ParseIntBCases
import Derived.Deep.OwnRows
import Derived.Lib.LaidTab
import Derived.Lib.AppendIntMem
import Derived.Shelf.Strings.Builder1
import Derived.Laws.CopyOwn
import Derived.Deep.DeepCutAuto
import Derived.WalkSmall
import Derived.Lib.AppendZerosOnto
import Derived.Lib.SliceRun
import Derived.Shelf.Abstract
import Derived.Deep.CutBlock
set_option linter.unusedVariables false
set_option linter.unusedSimpArgs false
namespace Go.Proofs.YtfkdailfcmnjlaaGreatDoor
open Go Go.RowKit
set_option maxRecDepth 100000
attribute [local go_sem ↓] Go.wp_at_zero Go.wp_at_succ
set_option maxHeartbeats 8000000 in
set_option maxRecDepth 1000000 in
theorem rj_17 {b : List UInt8} {ins : List Ins} {fl : List Int} {cp gf : Nat} {w w4 wr : World} {A : Bool} {Ru St a q : Nat} {vs : Value} (c1 c2 c3 c4 c5 c17 c18 c19 c20 c21 : Value) (u13 u14 u15 u16 u22 u23 u24 u25 u26 u27 u28 u29 u30 u31 u32 u33 u34 u35 u36 u37 u38 u39 u40 u41 u42 u43 u44 u45 u46 u47 u48 u49 u50 u51 u52 u53 u54 u55 u56 u57 u58 u59 u60 u61 u62 u63 u64 u65 u66 u67 u68 u69 u70 u71 u72 u73 u74 u75 u76 u77 u78 u79 u80 u81 u82 u83 u84 u85 u86 u87 u88 u89 u90 u91 u92 u93 u94 u95 u96 u97 u98 u99 u100 u101 u102 u103 u104 u105 u106 u107 u108 u109 u110 u111 u112 u113 u114 u115 u116 u117 u118 u119 u120 u121 u122 u123 u124 u125 u126 u127 u128 u129 u130 u131 u132 u133 u134 u135 u136 u137 u138 u139 u140 u141 u142 u143 u144 u145 u146 u147 u148 u149 u150 u151 u152 u153 u154 u155 u156 u157 u158 u159 u160 u161 u162 u163 u164 u165 u166 u167 u168 u169 u170 u171 u172 u173 u174 u175 u176 u177 u178 u179 u180 u181 u182 u183 u184 u185 u186 u187 u188 u189 u190 u191 u192 u193 u194 u195 u196 u197 u198 u199 u200 u201 u202 u203 u204 u205 u206 u207 u208 u209 u210 u211 u212 u213 u214 u215 u216 u217 u218 u219 u220 u221 u222 u223 u224 u225 u226 u227 : Value) (hld : loadOf b = some ins) (hF : FieldsT fl) (hcp : cp < w.heap.size) (HRes : Hid (∀ W, Below w4.heap.size w4 W → W.heap[w.heap.size + 1 + 1]? = some (.cells #[.bool false, .int .i64 0, .int .i64 0] 40 (0, 0)) ∧ Below w.heap.size w W)) (HX : Hid (RJX b ins fl cp gf w4 wr A Ru St a q vs)) (hNN : byteAt b a = 17) :
    Code.wp Tryz.prog ((Tryz.f26.body.bind loopIn).getD .skip) (Exit.then (fun a' w'' => JI b ins fl cp gf w w4 A Ru St c1 c2 c3 c4 c5 c17 c18 c19 c20 c21 a' w'' ∧ JMu b a' w'' < b.length - a) (JQ (JRj b w A Ru St))) ⟨#[.pointer (some ⟨cp, 0, none⟩), c1, c2, c3, c4, c5, .pointer (some ⟨w.heap.size + 1 + 1, 0, none⟩), .slice (some ⟨gf, 0, none⟩) 9 9, vs, .slice (some ⟨w4.heap.size, 0, none⟩) 256 256, .slice (some ⟨w4.heap.size + 1, 0, none⟩) 5 5, .int .i64 a, .int .i64 q, u13, u14, u15, u16, c17, c18, c19, c20, c21, u22, u23, u24, u25, u26, u27, u28, u29, u30, u31, u32, u33, u34, u35, u36, u37, u38, u39, u40, u41, u42, u43, u44, u45, u46, u47, u48, u49, u50, u51, u52, u53, u54, u55, u56, u57, u58, u59, u60, u61, u62, u63, u64, u65, u66, u67, u68, u69, u70, u71, u72, u73, u74, u75, u76, u77, u78, u79, u80, u81, u82, u83, u84, u85, u86, u87, u88, u89, u90, u91, u92, u93, u94, u95, u96, u97, u98, u99, u100, u101, u102, u103, u104, u105, u106, u107, u108, u109, u110, u111, u112, u113, u114, u115, u116, u117, u118, u119, u120, u121, u122, u123, u124, u125, u126, u127, u128, u129, u130, u131, u132, u133, u134, u135, u136, u137, u138, u139, u140, u141, u142, u143, u144, u145, u146, u147, u148, u149, u150, u151, u152, u153, u154, u155, u156, u157, u158, u159, u160, u161, u162, u163, u164, u165, u166, u167, u168, u169, u170, u171, u172, u173, u174, u175, u176, u177, u178, u179, u180, u181, u182, u183, u184, u185, u186, u187, u188, u189, u190, u191, u192, u193, u194, u195, u196, u197, u198, u199, u200, u201, u202, u203, u204, u205, u206, u207, u208, u209, u210, u211, u212, u213, u214, u215, u216, u217, u218, u219, u220, u221, u222, u223, u224, u225, u226, u227], []⟩ wr := by
  obtain ⟨l1, l2, l3, l4, l5, l6, C0, l7, l8⟩ := load_known hld
  have HFL : Hid _ := hF
  have HLD : Hid _ := hld
  clear l7 l8 hF hld
  obtain ⟨C, i, k, st, cl, f, hG, hpl, hS, hJ⟩ := HX.out
  have hxo := l3.each _ (getD_ins hS.hi)
  have hab := at_b hxo
  have hplt := (pl_lt l3 hS.hi).2
  have hstop := hS.stop
  have hstep := hS.step l3 rfl l6 HFL.out hG
  have hop := (num_ok hxo).op
  rw [hpl] at hab hplt
  have hcc : wr.cell? ⟨cp, 0, none⟩ = some (S b) := cell_of_row wr cp 0 _ _ _ hJ.code
  have hex := ex_drop b (a := a)
  have hq0 : (0 : Int) ≤ (a : Int) ∧ (a : Int) ≤ (b.length : Int) := by omega
  have hqs : q ≤ 4000 := by have := hS.le; have := hS.hi; omega
  have e0 : byteAt b a = (ins.getD i noIns).op := by rw [← hab.b0, byte_drop]; rfl
  rw [hNN] at e0
  generalize ins.getD i noIns = x at *
  generalize b.drop a = bb at *
  have E0 : Hid _ := e0
  clear e0 hNN
  have hb0 : 0 < (ByteArray.mk bb.toArray).size := hab.pos
  have hv0 : ((ByteArray.mk bb.toArray)[0]).toNat = x.op := (ba_at bb 0 hb0).trans hab.b0
  have hbp := hab.pos
  have hb4 : bb.length ≤ 4000 := by have := hab.len; omega
  have W2 := fun w => size_any x.op (by omega) w
  have HRs : Hid _ := HRes.out wr hJ.bel
  clear HX
  obtain ⟨sa, scap, hu8⟩ := hJ.sta.sl
  rw [List.length_reverse] at hu8
  subst hu8
  have hsl := hS.dep
  have hsz9 := size_le x.op
  have ha4 : a ≤ 4000 := by omega
  conv => arg 2; whnf
  go_upto_block 2 with (first | (go_at_call 49; refine (W2 _).mono ?_; rintro e0 w' ⟨rfl, hw'⟩; obtain rfl := hw'.symm))
  have e := E0.out.symm
  clear E0
  rw [e]
  have hsz : sizeOp 17 = 2 := rfl
  rw [hsz]
  obtain ⟨t2, t3, t4⟩ := hab.two (by rw [e]; rfl)
  have hb1 : 1 < (ByteArray.mk bb.toArray).size := by show 1 < bb.length; omega
  have hv1 : ((ByteArray.mk bb.toArray)[1]).toNat = byteAt bb 1 := ba_at bb 1 hb1
  have hnn : x.n.toNat = byteAt bb 1 := by rw [t3]; omega
  obtain ⟨hA, hRu, hSt⟩ := hstop (by omega)
  have HV : Hid (verdV A Ru St = .agg #[.bool true, .int .i64 (byteAt bb 1 : Nat), .int .i64 ((q : Int) + 1)]) := by
    show _ = _
    rw [hA, hSt, hRu, hnn, e]; rfl
  obtain ⟨hrb, hbw⟩ := HRs.out
  have rc := fun j => cell_of_row wr _ j _ _ _ hrb
  have r0 : wr.cell? ⟨w.heap.size + 1 + 1, 0, none⟩ = some (.bool false) := rc 0
  have r1 : wr.cell? ⟨w.heap.size + 1 + 1, 1, none⟩ = some (.int .i64 0) := rc 1
  have r2 : wr.cell? ⟨w.heap.size + 1 + 1, 2, none⟩ = some (.int .i64 0) := rc 2
  have rf : ∀ o, wr.frozen? ⟨w.heap.size + 1 + 1, o, none⟩ = false := fun o => by simp [World.frozen?, hrb]
  have g0 := rf 0
  have g1 := rf 1
  have g2 := rf 2
  have HBw : Hid _ := hbw
  clear hJ hS hstop hstep hG hab hxo t3 rc rf hrb hbw hA hRu hSt hnn
  generalize byteAt bb 1 = c1 at *
  go_wp2_with fail
  show JRj b w A Ru St _ _
  unfold JRj
  refine bodyPost_ret (v := .agg #[.bool true, .int .i64 (c1 : Nat), .int .i64 ((q : Int) + 1)]) (by simp [results, Tryz.results26, go_sem, cell_set_same, cell_set_off, some_set, r0, r1, r2]) rfl ?_
  exact ⟨by rw [HV.out], ((HBw.out.setCell (by simp; omega) _).setCell (by simp; omega) _).setCell (by simp; omega) _⟩
end Go.Proofs.YtfkdailfcmnjlaaGreatDoor

namespace Go.Proofs.YtfkdailfcmnjlaaGreatDoor
open Go Go.RowKit
set_option maxRecDepth 100000
attribute [local go_sem ↓] Go.wp_at_zero Go.wp_at_succ
set_option maxHeartbeats 8000000 in
set_option maxRecDepth 1000000 in
theorem rj_18 {b : List UInt8} {ins : List Ins} {fl : List Int} {cp gf : Nat} {w w4 wr : World} {A : Bool} {Ru St a q : Nat} {vs : Value} (c1 c2 c3 c4 c5 c17 c18 c19 c20 c21 : Value) (u13 u14 u15 u16 u22 u23 u24 u25 u26 u27 u28 u29 u30 u31 u32 u33 u34 u35 u36 u37 u38 u39 u40 u41 u42 u43 u44 u45 u46 u47 u48 u49 u50 u51 u52 u53 u54 u55 u56 u57 u58 u59 u60 u61 u62 u63 u64 u65 u66 u67 u68 u69 u70 u71 u72 u73 u74 u75 u76 u77 u78 u79 u80 u81 u82 u83 u84 u85 u86 u87 u88 u89 u90 u91 u92 u93 u94 u95 u96 u97 u98 u99 u100 u101 u102 u103 u104 u105 u106 u107 u108 u109 u110 u111 u112 u113 u114 u115 u116 u117 u118 u119 u120 u121 u122 u123 u124 u125 u126 u127 u128 u129 u130 u131 u132 u133 u134 u135 u136 u137 u138 u139 u140 u141 u142 u143 u144 u145 u146 u147 u148 u149 u150 u151 u152 u153 u154 u155 u156 u157 u158 u159 u160 u161 u162 u163 u164 u165 u166 u167 u168 u169 u170 u171 u172 u173 u174 u175 u176 u177 u178 u179 u180 u181 u182 u183 u184 u185 u186 u187 u188 u189 u190 u191 u192 u193 u194 u195 u196 u197 u198 u199 u200 u201 u202 u203 u204 u205 u206 u207 u208 u209 u210 u211 u212 u213 u214 u215 u216 u217 u218 u219 u220 u221 u222 u223 u224 u225 u226 u227 : Value) (hld : loadOf b = some ins) (hF : FieldsT fl) (hcp : cp < w.heap.size) (HRes : Hid (∀ W, Below w4.heap.size w4 W → W.heap[w.heap.size + 1 + 1]? = some (.cells #[.bool false, .int .i64 0, .int .i64 0] 40 (0, 0)) ∧ Below w.heap.size w W)) (HX : Hid (RJX b ins fl cp gf w4 wr A Ru St a q vs)) (hNN : byteAt b a = 18) :
    Code.wp Tryz.prog ((Tryz.f26.body.bind loopIn).getD .skip) (Exit.then (fun a' w'' => JI b ins fl cp gf w w4 A Ru St c1 c2 c3 c4 c5 c17 c18 c19 c20 c21 a' w'' ∧ JMu b a' w'' < b.length - a) (JQ (JRj b w A Ru St))) ⟨#[.pointer (some ⟨cp, 0, none⟩), c1, c2, c3, c4, c5, .pointer (some ⟨w.heap.size + 1 + 1, 0, none⟩), .slice (some ⟨gf, 0, none⟩) 9 9, vs, .slice (some ⟨w4.heap.size, 0, none⟩) 256 256, .slice (some ⟨w4.heap.size + 1, 0, none⟩) 5 5, .int .i64 a, .int .i64 q, u13, u14, u15, u16, c17, c18, c19, c20, c21, u22, u23, u24, u25, u26, u27, u28, u29, u30, u31, u32, u33, u34, u35, u36, u37, u38, u39, u40, u41, u42, u43, u44, u45, u46, u47, u48, u49, u50, u51, u52, u53, u54, u55, u56, u57, u58, u59, u60, u61, u62, u63, u64, u65, u66, u67, u68, u69, u70, u71, u72, u73, u74, u75, u76, u77, u78, u79, u80, u81, u82, u83, u84, u85, u86, u87, u88, u89, u90, u91, u92, u93, u94, u95, u96, u97, u98, u99, u100, u101, u102, u103, u104, u105, u106, u107, u108, u109, u110, u111, u112, u113, u114, u115, u116, u117, u118, u119, u120, u121, u122, u123, u124, u125, u126, u127, u128, u129, u130, u131, u132, u133, u134, u135, u136, u137, u138, u139, u140, u141, u142, u143, u144, u145, u146, u147, u148, u149, u150, u151, u152, u153, u154, u155, u156, u157, u158, u159, u160, u161, u162, u163, u164, u165, u166, u167, u168, u169, u170, u171, u172, u173, u174, u175, u176, u177, u178, u179, u180, u181, u182, u183, u184, u185, u186, u187, u188, u189, u190, u191, u192, u193, u194, u195, u196, u197, u198, u199, u200, u201, u202, u203, u204, u205, u206, u207, u208, u209, u210, u211, u212, u213, u214, u215, u216, u217, u218, u219, u220, u221, u222, u223, u224, u225, u226, u227], []⟩ wr := by
  obtain ⟨l1, l2, l3, l4, l5, l6, C0, l7, l8⟩ := load_known hld
  have HFL : Hid _ := hF
  have HLD : Hid _ := hld
  clear l7 l8 hF hld
  obtain ⟨C, i, k, st, cl, f, hG, hpl, hS, hJ⟩ := HX.out
  have hxo := l3.each _ (getD_ins hS.hi)
  have hab := at_b hxo
  have hplt := (pl_lt l3 hS.hi).2
  have hstop := hS.stop
  have hstep := hS.step l3 rfl l6 HFL.out hG
  have hop := (num_ok hxo).op
  rw [hpl] at hab hplt
  have hcc : wr.cell? ⟨cp, 0, none⟩ = some (S b) := cell_of_row wr cp 0 _ _ _ hJ.code
  have hex := ex_drop b (a := a)
  have hq0 : (0 : Int) ≤ (a : Int) ∧ (a : Int) ≤ (b.length : Int) := by omega
  have hqs : q ≤ 4000 := by have := hS.le; have := hS.hi; omega
  have e0 : byteAt b a = (ins.getD i noIns).op := by rw [← hab.b0, byte_drop]; rfl
  rw [hNN] at e0
  generalize ins.getD i noIns = x at *
  generalize b.drop a = bb at *
  have E0 : Hid _ := e0
  clear e0 hNN
  have hb0 : 0 < (ByteArray.mk bb.toArray).size := hab.pos
  have hv0 : ((ByteArray.mk bb.toArray)[0]).toNat = x.op := (ba_at bb 0 hb0).trans hab.b0
  have hbp := hab.pos
  have hb4 : bb.length ≤ 4000 := by have := hab.len; omega
  have W2 := fun w => size_any x.op (by omega) w
  have HRs : Hid _ := HRes.out wr hJ.bel
  clear HX
  obtain ⟨sa, scap, hu8⟩ := hJ.sta.sl
  rw [List.length_reverse] at hu8
  subst hu8
  have hsl := hS.dep
  have hsz9 := size_le x.op
  have ha4 : a ≤ 4000 := by omega
  conv => arg 2; whnf
  go_upto_block 2 with (first | (go_at_call 49; refine (W2 _).mono ?_; rintro e0 w' ⟨rfl, hw'⟩; obtain rfl := hw'.symm))
  have e := E0.out.symm
  clear E0
  rw [e]
  have hsz : sizeOp 18 = 2 := rfl
  rw [hsz]
  obtain ⟨t2, t3, t4⟩ := hab.two (by rw [e]; rfl)
  have hb1 : 1 < (ByteArray.mk bb.toArray).size := by show 1 < bb.length; omega
  have hv1 : ((ByteArray.mk bb.toArray)[1]).toNat = byteAt bb 1 := ba_at bb 1 hb1
  have hnn : x.n.toNat = byteAt bb 1 := by rw [t3]; omega
  obtain ⟨hA, hRu, hSt⟩ := hstop (by omega)
  have HV : Hid (verdV A Ru St = .agg #[.bool false, .int .i64 (byteAt bb 1 : Nat), .int .i64 ((q : Int) + 1)]) := by
    show _ = _
    rw [hA, hSt, hRu, hnn, e]; rfl
  obtain ⟨hrb, hbw⟩ := HRs.out
  have rc := fun j => cell_of_row wr _ j _ _ _ hrb
  have r0 : wr.cell? ⟨w.heap.size + 1 + 1, 0, none⟩ = some (.bool false) := rc 0
  have r1 : wr.cell? ⟨w.heap.size + 1 + 1, 1, none⟩ = some (.int .i64 0) := rc 1
  have r2 : wr.cell? ⟨w.heap.size + 1 + 1, 2, none⟩ = some (.int .i64 0) := rc 2
  have rf : ∀ o, wr.frozen? ⟨w.heap.size + 1 + 1, o, none⟩ = false := fun o => by simp [World.frozen?, hrb]
  have g0 := rf 0
  have g1 := rf 1
  have g2 := rf 2
  have HBw : Hid _ := hbw
  clear hJ hS hstop hstep hG hab hxo t3 rc rf hrb hbw hA hRu hSt hnn
  generalize byteAt bb 1 = c1 at *
  go_wp2_with fail
  show JRj b w A Ru St _ _
  unfold JRj
  refine bodyPost_ret (v := .agg #[.bool false, .int .i64 (c1 : Nat), .int .i64 ((q : Int) + 1)]) (by simp [results, Tryz.results26, go_sem, cell_set_same, cell_set_off, some_set, r0, r1, r2]) rfl ?_
  exact ⟨by rw [HV.out], ((HBw.out.setCell (by simp; omega) _).setCell (by simp; omega) _).setCell (by simp; omega) _⟩
end Go.Proofs.YtfkdailfcmnjlaaGreatDoor

namespace Go.Proofs.YtfkdailfcmnjlaaGreatDoor
open Go Go.RowKit
set_option maxRecDepth 100000
attribute [local go_sem ↓] Go.wp_at_zero Go.wp_at_succ
set_option maxHeartbeats 8000000 in
set_option maxRecDepth 1000000 in
theorem rj_round {b : List UInt8} {ins : List Ins} {fl : List Int} {cp gf : Nat} {w w4 : World} {A : Bool} {Ru St : Nat} (c1 c2 c3 c4 c5 c17 c18 c19 c20 c21 : Value) (hld : loadOf b = some ins) (hF : FieldsT fl) (hcp : cp < w.heap.size) (HRes : Hid (∀ W, Below w4.heap.size w4 W → W.heap[w.heap.size + 1 + 1]? = some (.cells #[.bool false, .int .i64 0, .int .i64 0] 40 (0, 0)) ∧ Below w.heap.size w W)) (act : Act) (wr : World) (hI : JI b ins fl cp gf w w4 A Ru St c1 c2 c3 c4 c5 c17 c18 c19 c20 c21 act wr) :
    Code.wp Tryz.prog ((Tryz.f26.body.bind loopIn).getD .skip) (Exit.then (fun a' w'' => JI b ins fl cp gf w w4 A Ru St c1 c2 c3 c4 c5 c17 c18 c19 c20 c21 a' w'' ∧ JMu b a' w'' < JMu b act wr) (JQ (JRj b w A Ru St))) act wr := by
  unfold JI at hI
  obtain ⟨u8, hI⟩ := hI
  obtain ⟨u11, hI⟩ := hI
  obtain ⟨u12, hI⟩ := hI
  obtain ⟨u13, hI⟩ := hI
  obtain ⟨u14, hI⟩ := hI
  obtain ⟨u15, hI⟩ := hI
  obtain ⟨u16, hI⟩ := hI
  obtain ⟨u22, hI⟩ := hI
  obtain ⟨u23, hI⟩ := hI
  obtain ⟨u24, hI⟩ := hI
  obtain ⟨u25, hI⟩ := hI
  obtain ⟨u26, hI⟩ := hI
  obtain ⟨u27, hI⟩ := hI
  obtain ⟨u28, hI⟩ := hI
  obtain ⟨u29, hI⟩ := hI
  obtain ⟨u30, hI⟩ := hI
  obtain ⟨u31, hI⟩ := hI
  obtain ⟨u32, hI⟩ := hI
  obtain ⟨u33, hI⟩ := hI
  obtain ⟨u34, hI⟩ := hI
  obtain ⟨u35, hI⟩ := hI
  obtain ⟨u36, hI⟩ := hI
  obtain ⟨u37, hI⟩ := hI
  obtain ⟨u38, hI⟩ := hI
  obtain ⟨u39, hI⟩ := hI
  obtain ⟨u40, hI⟩ := hI
  obtain ⟨u41, hI⟩ := hI
  obtain ⟨u42, hI⟩ := hI
  obtain ⟨u43, hI⟩ := hI
  obtain ⟨u44, hI⟩ := hI
  obtain ⟨u45, hI⟩ := hI
  obtain ⟨u46, hI⟩ := hI
  obtain ⟨u47, hI⟩ := hI
  obtain ⟨u48, hI⟩ := hI
  obtain ⟨u49, hI⟩ := hI
  obtain ⟨u50, hI⟩ := hI
  obtain ⟨u51, hI⟩ := hI
  obtain ⟨u52, hI⟩ := hI
  obtain ⟨u53, hI⟩ := hI
  obtain ⟨u54, hI⟩ := hI
  obtain ⟨u55, hI⟩ := hI
  obtain ⟨u56, hI⟩ := hI
  obtain ⟨u57, hI⟩ := hI
  obtain ⟨u58, hI⟩ := hI
  obtain ⟨u59, hI⟩ := hI
  obtain ⟨u60, hI⟩ := hI
  obtain ⟨u61, hI⟩ := hI
  obtain ⟨u62, hI⟩ := hI
  obtain ⟨u63, hI⟩ := hI
  obtain ⟨u64, hI⟩ := hI
  obtain ⟨u65, hI⟩ := hI
  obtain ⟨u66, hI⟩ := hI
  obtain ⟨u67, hI⟩ := hI
  obtain ⟨u68, hI⟩ := hI
  obtain ⟨u69, hI⟩ := hI
  obtain ⟨u70, hI⟩ := hI
  obtain ⟨u71, hI⟩ := hI
  obtain ⟨u72, hI⟩ := hI
  obtain ⟨u73, hI⟩ := hI
  obtain ⟨u74, hI⟩ := hI
  obtain ⟨u75, hI⟩ := hI
  obtain ⟨u76, hI⟩ := hI
  obtain ⟨u77, hI⟩ := hI
  obtain ⟨u78, hI⟩ := hI
  obtain ⟨u79, hI⟩ := hI
  obtain ⟨u80, hI⟩ := hI
  obtain ⟨u81, hI⟩ := hI
  obtain ⟨u82, hI⟩ := hI
  obtain ⟨u83, hI⟩ := hI
  obtain ⟨u84, hI⟩ := hI
  obtain ⟨u85, hI⟩ := hI
  obtain ⟨u86, hI⟩ := hI
  obtain ⟨u87, hI⟩ := hI
  obtain ⟨u88, hI⟩ := hI
  obtain ⟨u89, hI⟩ := hI
  obtain ⟨u90, hI⟩ := hI
  obtain ⟨u91, hI⟩ := hI
  obtain ⟨u92, hI⟩ := hI
  obtain ⟨u93, hI⟩ := hI
  obtain ⟨u94, hI⟩ := hI
  obtain ⟨u95, hI⟩ := hI
  obtain ⟨u96, hI⟩ := hI
  obtain ⟨u97, hI⟩ := hI
  obtain ⟨u98, hI⟩ := hI
  obtain ⟨u99, hI⟩ := hI
  obtain ⟨u100, hI⟩ := hI
  obtain ⟨u101, hI⟩ := hI
  obtain ⟨u102, hI⟩ := hI
  obtain ⟨u103, hI⟩ := hI
  obtain ⟨u104, hI⟩ := hI
  obtain ⟨u105, hI⟩ := hI
  obtain ⟨u106, hI⟩ := hI
  obtain ⟨u107, hI⟩ := hI
  obtain ⟨u108, hI⟩ := hI
  obtain ⟨u109, hI⟩ := hI
  obtain ⟨u110, hI⟩ := hI
  obtain ⟨u111, hI⟩ := hI
  obtain ⟨u112, hI⟩ := hI
  obtain ⟨u113, hI⟩ := hI
  obtain ⟨u114, hI⟩ := hI
  obtain ⟨u115, hI⟩ := hI
  obtain ⟨u116, hI⟩ := hI
  obtain ⟨u117, hI⟩ := hI
  obtain ⟨u118, hI⟩ := hI
  obtain ⟨u119, hI⟩ := hI
  obtain ⟨u120, hI⟩ := hI
  obtain ⟨u121, hI⟩ := hI
  obtain ⟨u122, hI⟩ := hI
  obtain ⟨u123, hI⟩ := hI
  obtain ⟨u124, hI⟩ := hI
  obtain ⟨u125, hI⟩ := hI
  obtain ⟨u126, hI⟩ := hI
  obtain ⟨u127, hI⟩ := hI
  obtain ⟨u128, hI⟩ := hI
  obtain ⟨u129, hI⟩ := hI
  obtain ⟨u130, hI⟩ := hI
  obtain ⟨u131, hI⟩ := hI
  obtain ⟨u132, hI⟩ := hI
  obtain ⟨u133, hI⟩ := hI
  obtain ⟨u134, hI⟩ := hI
  obtain ⟨u135, hI⟩ := hI
  obtain ⟨u136, hI⟩ := hI
  obtain ⟨u137, hI⟩ := hI
  obtain ⟨u138, hI⟩ := hI
  obtain ⟨u139, hI⟩ := hI
  obtain ⟨u140, hI⟩ := hI
  obtain ⟨u141, hI⟩ := hI
  obtain ⟨u142, hI⟩ := hI
  obtain ⟨u143, hI⟩ := hI
  obtain ⟨u144, hI⟩ := hI
  obtain ⟨u145, hI⟩ := hI
  obtain ⟨u146, hI⟩ := hI
  obtain ⟨u147, hI⟩ := hI
  obtain ⟨u148, hI⟩ := hI
  obtain ⟨u149, hI⟩ := hI
  obtain ⟨u150, hI⟩ := hI
  obtain ⟨u151, hI⟩ := hI
  obtain ⟨u152, hI⟩ := hI
  obtain ⟨u153, hI⟩ := hI
  obtain ⟨u154, hI⟩ := hI
  obtain ⟨u155, hI⟩ := hI
  obtain ⟨u156, hI⟩ := hI
  obtain ⟨u157, hI⟩ := hI
  obtain ⟨u158, hI⟩ := hI
  obtain ⟨u159, hI⟩ := hI
  obtain ⟨u160, hI⟩ := hI
  obtain ⟨u161, hI⟩ := hI
  obtain ⟨u162, hI⟩ := hI
  obtain ⟨u163, hI⟩ := hI
  obtain ⟨u164, hI⟩ := hI
  obtain ⟨u165, hI⟩ := hI
  obtain ⟨u166, hI⟩ := hI
  obtain ⟨u167, hI⟩ := hI
  obtain ⟨u168, hI⟩ := hI
  obtain ⟨u169, hI⟩ := hI
  obtain ⟨u170, hI⟩ := hI
  obtain ⟨u171, hI⟩ := hI
  obtain ⟨u172, hI⟩ := hI
  obtain ⟨u173, hI⟩ := hI
  obtain ⟨u174, hI⟩ := hI
  obtain ⟨u175, hI⟩ := hI
  obtain ⟨u176, hI⟩ := hI
  obtain ⟨u177, hI⟩ := hI
  obtain ⟨u178, hI⟩ := hI
  obtain ⟨u179, hI⟩ := hI
  obtain ⟨u180, hI⟩ := hI
  obtain ⟨u181, hI⟩ := hI
  obtain ⟨u182, hI⟩ := hI
  obtain ⟨u183, hI⟩ := hI
  obtain ⟨u184, hI⟩ := hI
  obtain ⟨u185, hI⟩ := hI
  obtain ⟨u186, hI⟩ := hI
  obtain ⟨u187, hI⟩ := hI
  obtain ⟨u188, hI⟩ := hI
  obtain ⟨u189, hI⟩ := hI
  obtain ⟨u190, hI⟩ := hI
  obtain ⟨u191, hI⟩ := hI
  obtain ⟨u192, hI⟩ := hI
  obtain ⟨u193, hI⟩ := hI
  obtain ⟨u194, hI⟩ := hI
  obtain ⟨u195, hI⟩ := hI
  obtain ⟨u196, hI⟩ := hI
  obtain ⟨u197, hI⟩ := hI
  obtain ⟨u198, hI⟩ := hI
  obtain ⟨u199, hI⟩ := hI
  obtain ⟨u200, hI⟩ := hI
  obtain ⟨u201, hI⟩ := hI
  obtain ⟨u202, hI⟩ := hI
  obtain ⟨u203, hI⟩ := hI
  obtain ⟨u204, hI⟩ := hI
  obtain ⟨u205, hI⟩ := hI
  obtain ⟨u206, hI⟩ := hI
  obtain ⟨u207, hI⟩ := hI
  obtain ⟨u208, hI⟩ := hI
  obtain ⟨u209, hI⟩ := hI
  obtain ⟨u210, hI⟩ := hI
  obtain ⟨u211, hI⟩ := hI
  obtain ⟨u212, hI⟩ := hI
  obtain ⟨u213, hI⟩ := hI
  obtain ⟨u214, hI⟩ := hI
  obtain ⟨u215, hI⟩ := hI
  obtain ⟨u216, hI⟩ := hI
  obtain ⟨u217, hI⟩ := hI
  obtain ⟨u218, hI⟩ := hI
  obtain ⟨u219, hI⟩ := hI
  obtain ⟨u220, hI⟩ := hI
  obtain ⟨u221, hI⟩ := hI
  obtain ⟨u222, hI⟩ := hI
  obtain ⟨u223, hI⟩ := hI
  obtain ⟨u224, hI⟩ := hI
  obtain ⟨u225, hI⟩ := hI
  obtain ⟨u226, hI⟩ := hI
  obtain ⟨u227, hI⟩ := hI
  obtain ⟨⟨a, q, h11, h12, HX⟩, hact⟩ := hI
  subst h11 h12 hact
  have hmu : JMu b ⟨#[.pointer (some ⟨cp, 0, none⟩), c1, c2, c3, c4, c5, .pointer (some ⟨w.heap.size + 1 + 1, 0, none⟩), .slice (some ⟨gf, 0, none⟩) 9 9, u8, .slice (some ⟨w4.heap.size, 0, none⟩) 256 256, .slice (some ⟨w4.heap.size + 1, 0, none⟩) 5 5, .int .i64 a, .int .i64 q, u13, u14, u15, u16, c17, c18, c19, c20, c21, u22, u23, u24, u25, u26, u27, u28, u29, u30, u31, u32, u33, u34, u35, u36, u37, u38, u39, u40, u41, u42, u43, u44, u45, u46, u47, u48, u49, u50, u51, u52, u53, u54, u55, u56, u57, u58, u59, u60, u61, u62, u63, u64, u65, u66, u67, u68, u69, u70, u71, u72, u73, u74, u75, u76, u77, u78, u79, u80, u81, u82, u83, u84, u85, u86, u87, u88, u89, u90, u91, u92, u93, u94, u95, u96, u97, u98, u99, u100, u101, u102, u103, u104, u105, u106, u107, u108, u109, u110, u111, u112, u113, u114, u115, u116, u117, u118, u119, u120, u121, u122, u123, u124, u125, u126, u127, u128, u129, u130, u131, u132, u133, u134, u135, u136, u137, u138, u139, u140, u141, u142, u143, u144, u145, u146, u147, u148, u149, u150, u151, u152, u153, u154, u155, u156, u157, u158, u159, u160, u161, u162, u163, u164, u165, u166, u167, u168, u169, u170, u171, u172, u173, u174, u175, u176, u177, u178, u179, u180, u181, u182, u183, u184, u185, u186, u187, u188, u189, u190, u191, u192, u193, u194, u195, u196, u197, u198, u199, u200, u201, u202, u203, u204, u205, u206, u207, u208, u209, u210, u211, u212, u213, u214, u215, u216, u217, u218, u219, u220, u221, u222, u223, u224, u225, u226, u227], []⟩ wr = b.length - a := by simp [JMu, intOf]
  rw [hmu]
  have hop : (∃ ks, ks ≤ 4 ∧ byteAt b a = ks + 7) ∨ byteAt b a = 1 ∨ byteAt b a = 2 ∨ byteAt b a = 3 ∨ byteAt b a = 4 ∨ byteAt b a = 5 ∨ byteAt b a = 6 ∨ byteAt b a = 12 ∨ byteAt b a = 13 ∨ byteAt b a = 14 ∨ byteAt b a = 15 ∨ byteAt b a = 16 ∨ byteAt b a = 17 ∨ byteAt b a = 18 := by
    obtain ⟨C, i, k, st, cl, f, hG, hpl, hS, hJ⟩ := HX.out
    obtain ⟨l1, l2, l3, l4, l5, l6, C0, l7, l8⟩ := load_known hld
    have hxo := l3.each _ (getD_ins hS.hi)
    have hop := (num_ok hxo).op
    have hb := ins_op hxo
    rw [hpl] at hb
    by_cases h7 : 7 ≤ byteAt b a ∧ byteAt b a ≤ 11
    · exact .inl ⟨byteAt b a - 7, by omega, by omega⟩
    · right; omega
  rcases hop with ⟨ks, hks, h⟩ | h | h | h | h | h | h | h | h | h | h | h | h | h
  · exact rj_7 c1 c2 c3 c4 c5 c17 c18 c19 c20 c21 u13 u14 u15 u16 u22 u23 u24 u25 u26 u27 u28 u29 u30 u31 u32 u33 u34 u35 u36 u37 u38 u39 u40 u41 u42 u43 u44 u45 u46 u47 u48 u49 u50 u51 u52 u53 u54 u55 u56 u57 u58 u59 u60 u61 u62 u63 u64 u65 u66 u67 u68 u69 u70 u71 u72 u73 u74 u75 u76 u77 u78 u79 u80 u81 u82 u83 u84 u85 u86 u87 u88 u89 u90 u91 u92 u93 u94 u95 u96 u97 u98 u99 u100 u101 u102 u103 u104 u105 u106 u107 u108 u109 u110 u111 u112 u113 u114 u115 u116 u117 u118 u119 u120 u121 u122 u123 u124 u125 u126 u127 u128 u129 u130 u131 u132 u133 u134 u135 u136 u137 u138 u139 u140 u141 u142 u143 u144 u145 u146 u147 u148 u149 u150 u151 u152 u153 u154 u155 u156 u157 u158 u159 u160 u161 u162 u163 u164 u165 u166 u167 u168 u169 u170 u171 u172 u173 u174 u175 u176 u177 u178 u179 u180 u181 u182 u183 u184 u185 u186 u187 u188 u189 u190 u191 u192 u193 u194 u195 u196 u197 u198 u199 u200 u201 u202 u203 u204 u205 u206 u207 u208 u209 u210 u211 u212 u213 u214 u215 u216 u217 u218 u219 u220 u221 u222 u223 u224 u225 u226 u227 hld hF hcp HRes HX h hks
  · exact rj_1 c1 c2 c3 c4 c5 c17 c18 c19 c20 c21 u13 u14 u15 u16 u22 u23 u24 u25 u26 u27 u28 u29 u30 u31 u32 u33 u34 u35 u36 u37 u38 u39 u40 u41 u42 u43 u44 u45 u46 u47 u48 u49 u50 u51 u52 u53 u54 u55 u56 u57 u58 u59 u60 u61 u62 u63 u64 u65 u66 u67 u68 u69 u70 u71 u72 u73 u74 u75 u76 u77 u78 u79 u80 u81 u82 u83 u84 u85 u86 u87 u88 u89 u90 u91 u92 u93 u94 u95 u96 u97 u98 u99 u100 u101 u102 u103 u104 u105 u106 u107 u108 u109 u110 u111 u112 u113 u114 u115 u116 u117 u118 u119 u120 u121 u122 u123 u124 u125 u126 u127 u128 u129 u130 u131 u132 u133 u134 u135 u136 u137 u138 u139 u140 u141 u142 u143 u144 u145 u146 u147 u148 u149 u150 u151 u152 u153 u154 u155 u156 u157 u158 u159 u160 u161 u162 u163 u164 u165 u166 u167 u168 u169 u170 u171 u172 u173 u174 u175 u176 u177 u178 u179 u180 u181 u182 u183 u184 u185 u186 u187 u188 u189 u190 u191 u192 u193 u194 u195 u196 u197 u198 u199 u200 u201 u202 u203 u204 u205 u206 u207 u208 u209 u210 u211 u212 u213 u214 u215 u216 u217 u218 u219 u220 u221 u222 u223 u224 u225 u226 u227 hld hF hcp HRes HX h
  · exact rj_2 c1 c2 c3 c4 c5 c17 c18 c19 c20 c21 u13 u14 u15 u16 u22 u23 u24 u25 u26 u27 u28 u29 u30 u31 u32 u33 u34 u35 u36 u37 u38 u39 u40 u41 u42 u43 u44 u45 u46 u47 u48 u49 u50 u51 u52 u53 u54 u55 u56 u57 u58 u59 u60 u61 u62 u63 u64 u65 u66 u67 u68 u69 u70 u71 u72 u73 u74 u75 u76 u77 u78 u79 u80 u81 u82 u83 u84 u85 u86 u87 u88 u89 u90 u91 u92 u93 u94 u95 u96 u97 u98 u99 u100 u101 u102 u103 u104 u105 u106 u107 u108 u109 u110 u111 u112 u113 u114 u115 u116 u117 u118 u119 u120 u121 u122 u123 u124 u125 u126 u127 u128 u129 u130 u131 u132 u133 u134 u135 u136 u137 u138 u139 u140 u141 u142 u143 u144 u145 u146 u147 u148 u149 u150 u151 u152 u153 u154 u155 u156 u157 u158 u159 u160 u161 u162 u163 u164 u165 u166 u167 u168 u169 u170 u171 u172 u173 u174 u175 u176 u177 u178 u179 u180 u181 u182 u183 u184 u185 u186 u187 u188 u189 u190 u191 u192 u193 u194 u195 u196 u197 u198 u199 u200 u201 u202 u203 u204 u205 u206 u207 u208 u209 u210 u211 u212 u213 u214 u215 u216 u217 u218 u219 u220 u221 u222 u223 u224 u225 u226 u227 hld hF hcp HRes HX h
  · exact rj_3 c1 c2 c3 c4 c5 c17 c18 c19 c20 c21 u13 u14 u15 u16 u22 u23 u24 u25 u26 u27 u28 u29 u30 u31 u32 u33 u34 u35 u36 u37 u38 u39 u40 u41 u42 u43 u44 u45 u46 u47 u48 u49 u50 u51 u52 u53 u54 u55 u56 u57 u58 u59 u60 u61 u62 u63 u64 u65 u66 u67 u68 u69 u70 u71 u72 u73 u74 u75 u76 u77 u78 u79 u80 u81 u82 u83 u84 u85 u86 u87 u88 u89 u90 u91 u92 u93 u94 u95 u96 u97 u98 u99 u100 u101 u102 u103 u104 u105 u106 u107 u108 u109 u110 u111 u112 u113 u114 u115 u116 u117 u118 u119 u120 u121 u122 u123 u124 u125 u126 u127 u128 u129 u130 u131 u132 u133 u134 u135 u136 u137 u138 u139 u140 u141 u142 u143 u144 u145 u146 u147 u148 u149 u150 u151 u152 u153 u154 u155 u156 u157 u158 u159 u160 u161 u162 u163 u164 u165 u166 u167 u168 u169 u170 u171 u172 u173 u174 u175 u176 u177 u178 u179 u180 u181 u182 u183 u184 u185 u186 u187 u188 u189 u190 u191 u192 u193 u194 u195 u196 u197 u198 u199 u200 u201 u202 u203 u204 u205 u206 u207 u208 u209 u210 u211 u212 u213 u214 u215 u216 u217 u218 u219 u220 u221 u222 u223 u224 u225 u226 u227 hld hF hcp HRes HX h
  · exact rj_4 c1 c2 c3 c4 c5 c17 c18 c19 c20 c21 u13 u14 u15 u16 u22 u23 u24 u25 u26 u27 u28 u29 u30 u31 u32 u33 u34 u35 u36 u37 u38 u39 u40 u41 u42 u43 u44 u45 u46 u47 u48 u49 u50 u51 u52 u53 u54 u55 u56 u57 u58 u59 u60 u61 u62 u63 u64 u65 u66 u67 u68 u69 u70 u71 u72 u73 u74 u75 u76 u77 u78 u79 u80 u81 u82 u83 u84 u85 u86 u87 u88 u89 u90 u91 u92 u93 u94 u95 u96 u97 u98 u99 u100 u101 u102 u103 u104 u105 u106 u107 u108 u109 u110 u111 u112 u113 u114 u115 u116 u117 u118 u119 u120 u121 u122 u123 u124 u125 u126 u127 u128 u129 u130 u131 u132 u133 u134 u135 u136 u137 u138 u139 u140 u141 u142 u143 u144 u145 u146 u147 u148 u149 u150 u151 u152 u153 u154 u155 u156 u157 u158 u159 u160 u161 u162 u163 u164 u165 u166 u167 u168 u169 u170 u171 u172 u173 u174 u175 u176 u177 u178 u179 u180 u181 u182 u183 u184 u185 u186 u187 u188 u189 u190 u191 u192 u193 u194 u195 u196 u197 u198 u199 u200 u201 u202 u203 u204 u205 u206 u207 u208 u209 u210 u211 u212 u213 u214 u215 u216 u217 u218 u219 u220 u221 u222 u223 u224 u225 u226 u227 hld hF hcp HRes HX h
  · exact rj_5 c1 c2 c3 c4 c5 c17 c18 c19 c20 c21 u13 u14 u15 u16 u22 u23 u24 u25 u26 u27 u28 u29 u30 u31 u32 u33 u34 u35 u36 u37 u38 u39 u40 u41 u42 u43 u44 u45 u46 u47 u48 u49 u50 u51 u52 u53 u54 u55 u56 u57 u58 u59 u60 u61 u62 u63 u64 u65 u66 u67 u68 u69 u70 u71 u72 u73 u74 u75 u76 u77 u78 u79 u80 u81 u82 u83 u84 u85 u86 u87 u88 u89 u90 u91 u92 u93 u94 u95 u96 u97 u98 u99 u100 u101 u102 u103 u104 u105 u106 u107 u108 u109 u110 u111 u112 u113 u114 u115 u116 u117 u118 u119 u120 u121 u122 u123 u124 u125 u126 u127 u128 u129 u130 u131 u132 u133 u134 u135 u136 u137 u138 u139 u140 u141 u142 u143 u144 u145 u146 u147 u148 u149 u150 u151 u152 u153 u154 u155 u156 u157 u158 u159 u160 u161 u162 u163 u164 u165 u166 u167 u168 u169 u170 u171 u172 u173 u174 u175 u176 u177 u178 u179 u180 u181 u182 u183 u184 u185 u186 u187 u188 u189 u190 u191 u192 u193 u194 u195 u196 u197 u198 u199 u200 u201 u202 u203 u204 u205 u206 u207 u208 u209 u210 u211 u212 u213 u214 u215 u216 u217 u218 u219 u220 u221 u222 u223 u224 u225 u226 u227 hld hF hcp HRes HX h
  · exact rj_6 c1 c2 c3 c4 c5 c17 c18 c19 c20 c21 u13 u14 u15 u16 u22 u23 u24 u25 u26 u27 u28 u29 u30 u31 u32 u33 u34 u35 u36 u37 u38 u39 u40 u41 u42 u43 u44 u45 u46 u47 u48 u49 u50 u51 u52 u53 u54 u55 u56 u57 u58 u59 u60 u61 u62 u63 u64 u65 u66 u67 u68 u69 u70 u71 u72 u73 u74 u75 u76 u77 u78 u79 u80 u81 u82 u83 u84 u85 u86 u87 u88 u89 u90 u91 u92 u93 u94 u95 u96 u97 u98 u99 u100 u101 u102 u103 u104 u105 u106 u107 u108 u109 u110 u111 u112 u113 u114 u115 u116 u117 u118 u119 u120 u121 u122 u123 u124 u125 u126 u127 u128 u129 u130 u131 u132 u133 u134 u135 u136 u137 u138 u139 u140 u141 u142 u143 u144 u145 u146 u147 u148 u149 u150 u151 u152 u153 u154 u155 u156 u157 u158 u159 u160 u161 u162 u163 u164 u165 u166 u167 u168 u169 u170 u171 u172 u173 u174 u175 u176 u177 u178 u179 u180 u181 u182 u183 u184 u185 u186 u187 u188 u189 u190 u191 u192 u193 u194 u195 u196 u197 u198 u199 u200 u201 u202 u203 u204 u205 u206 u207 u208 u209 u210 u211 u212 u213 u214 u215 u216 u217 u218 u219 u220 u221 u222 u223 u224 u225 u226 u227 hld hF hcp HRes HX h
  · exact rj_12 c1 c2 c3 c4 c5 c17 c18 c19 c20 c21 u13 u14 u15 u16 u22 u23 u24 u25 u26 u27 u28 u29 u30 u31 u32 u33 u34 u35 u36 u37 u38 u39 u40 u41 u42 u43 u44 u45 u46 u47 u48 u49 u50 u51 u52 u53 u54 u55 u56 u57 u58 u59 u60 u61 u62 u63 u64 u65 u66 u67 u68 u69 u70 u71 u72 u73 u74 u75 u76 u77 u78 u79 u80 u81 u82 u83 u84 u85 u86 u87 u88 u89 u90 u91 u92 u93 u94 u95 u96 u97 u98 u99 u100 u101 u102 u103 u104 u105 u106 u107 u108 u109 u110 u111 u112 u113 u114 u115 u116 u117 u118 u119 u120 u121 u122 u123 u124 u125 u126 u127 u128 u129 u130 u131 u132 u133 u134 u135 u136 u137 u138 u139 u140 u141 u142 u143 u144 u145 u146 u147 u148 u149 u150 u151 u152 u153 u154 u155 u156 u157 u158 u159 u160 u161 u162 u163 u164 u165 u166 u167 u168 u169 u170 u171 u172 u173 u174 u175 u176 u177 u178 u179 u180 u181 u182 u183 u184 u185 u186 u187 u188 u189 u190 u191 u192 u193 u194 u195 u196 u197 u198 u199 u200 u201 u202 u203 u204 u205 u206 u207 u208 u209 u210 u211 u212 u213 u214 u215 u216 u217 u218 u219 u220 u221 u222 u223 u224 u225 u226 u227 hld hF hcp HRes HX h
  · exact rj_13 c1 c2 c3 c4 c5 c17 c18 c19 c20 c21 u13 u14 u15 u16 u22 u23 u24 u25 u26 u27 u28 u29 u30 u31 u32 u33 u34 u35 u36 u37 u38 u39 u40 u41 u42 u43 u44 u45 u46 u47 u48 u49 u50 u51 u52 u53 u54 u55 u56 u57 u58 u59 u60 u61 u62 u63 u64 u65 u66 u67 u68 u69 u70 u71 u72 u73 u74 u75 u76 u77 u78 u79 u80 u81 u82 u83 u84 u85 u86 u87 u88 u89 u90 u91 u92 u93 u94 u95 u96 u97 u98 u99 u100 u101 u102 u103 u104 u105 u106 u107 u108 u109 u110 u111 u112 u113 u114 u115 u116 u117 u118 u119 u120 u121 u122 u123 u124 u125 u126 u127 u128 u129 u130 u131 u132 u133 u134 u135 u136 u137 u138 u139 u140 u141 u142 u143 u144 u145 u146 u147 u148 u149 u150 u151 u152 u153 u154 u155 u156 u157 u158 u159 u160 u161 u162 u163 u164 u165 u166 u167 u168 u169 u170 u171 u172 u173 u174 u175 u176 u177 u178 u179 u180 u181 u182 u183 u184 u185 u186 u187 u188 u189 u190 u191 u192 u193 u194 u195 u196 u197 u198 u199 u200 u201 u202 u203 u204 u205 u206 u207 u208 u209 u210 u211 u212 u213 u214 u215 u216 u217 u218 u219 u220 u221 u222 u223 u224 u225 u226 u227 hld hF hcp HRes HX h
  · exact rj_14 c1 c2 c3 c4 c5 c17 c18 c19 c20 c21 u13 u14 u15 u16 u22 u23 u24 u25 u26 u27 u28 u29 u30 u31 u32 u33 u34 u35 u36 u37 u38 u39 u40 u41 u42 u43 u44 u45 u46 u47 u48 u49 u50 u51 u52 u53 u54 u55 u56 u57 u58 u59 u60 u61 u62 u63 u64 u65 u66 u67 u68 u69 u70 u71 u72 u73 u74 u75 u76 u77 u78 u79 u80 u81 u82 u83 u84 u85 u86 u87 u88 u89 u90 u91 u92 u93 u94 u95 u96 u97 u98 u99 u100 u101 u102 u103 u104 u105 u106 u107 u108 u109 u110 u111 u112 u113 u114 u115 u116 u117 u118 u119 u120 u121 u122 u123 u124 u125 u126 u127 u128 u129 u130 u131 u132 u133 u134 u135 u136 u137 u138 u139 u140 u141 u142 u143 u144 u145 u146 u147 u148 u149 u150 u151 u152 u153 u154 u155 u156 u157 u158 u159 u160 u161 u162 u163 u164 u165 u166 u167 u168 u169 u170 u171 u172 u173 u174 u175 u176 u177 u178 u179 u180 u181 u182 u183 u184 u185 u186 u187 u188 u189 u190 u191 u192 u193 u194 u195 u196 u197 u198 u199 u200 u201 u202 u203 u204 u205 u206 u207 u208 u209 u210 u211 u212 u213 u214 u215 u216 u217 u218 u219 u220 u221 u222 u223 u224 u225 u226 u227 hld hF hcp HRes HX h
  · exact rj_15 c1 c2 c3 c4 c5 c17 c18 c19 c20 c21 u13 u14 u15 u16 u22 u23 u24 u25 u26 u27 u28 u29 u30 u31 u32 u33 u34 u35 u36 u37 u38 u39 u40 u41 u42 u43 u44 u45 u46 u47 u48 u49 u50 u51 u52 u53 u54 u55 u56 u57 u58 u59 u60 u61 u62 u63 u64 u65 u66 u67 u68 u69 u70 u71 u72 u73 u74 u75 u76 u77 u78 u79 u80 u81 u82 u83 u84 u85 u86 u87 u88 u89 u90 u91 u92 u93 u94 u95 u96 u97 u98 u99 u100 u101 u102 u103 u104 u105 u106 u107 u108 u109 u110 u111 u112 u113 u114 u115 u116 u117 u118 u119 u120 u121 u122 u123 u124 u125 u126 u127 u128 u129 u130 u131 u132 u133 u134 u135 u136 u137 u138 u139 u140 u141 u142 u143 u144 u145 u146 u147 u148 u149 u150 u151 u152 u153 u154 u155 u156 u157 u158 u159 u160 u161 u162 u163 u164 u165 u166 u167 u168 u169 u170 u171 u172 u173 u174 u175 u176 u177 u178 u179 u180 u181 u182 u183 u184 u185 u186 u187 u188 u189 u190 u191 u192 u193 u194 u195 u196 u197 u198 u199 u200 u201 u202 u203 u204 u205 u206 u207 u208 u209 u210 u211 u212 u213 u214 u215 u216 u217 u218 u219 u220 u221 u222 u223 u224 u225 u226 u227 hld hF hcp HRes HX h
  · exact rj_16 c1 c2 c3 c4 c5 c17 c18 c19 c20 c21 u13 u14 u15 u16 u22 u23 u24 u25 u26 u27 u28 u29 u30 u31 u32 u33 u34 u35 u36 u37 u38 u39 u40 u41 u42 u43 u44 u45 u46 u47 u48 u49 u50 u51 u52 u53 u54 u55 u56 u57 u58 u59 u60 u61 u62 u63 u64 u65 u66 u67 u68 u69 u70 u71 u72 u73 u74 u75 u76 u77 u78 u79 u80 u81 u82 u83 u84 u85 u86 u87 u88 u89 u90 u91 u92 u93 u94 u95 u96 u97 u98 u99 u100 u101 u102 u103 u104 u105 u106 u107 u108 u109 u110 u111 u112 u113 u114 u115 u116 u117 u118 u119 u120 u121 u122 u123 u124 u125 u126 u127 u128 u129 u130 u131 u132 u133 u134 u135 u136 u137 u138 u139 u140 u141 u142 u143 u144 u145 u146 u147 u148 u149 u150 u151 u152 u153 u154 u155 u156 u157 u158 u159 u160 u161 u162 u163 u164 u165 u166 u167 u168 u169 u170 u171 u172 u173 u174 u175 u176 u177 u178 u179 u180 u181 u182 u183 u184 u185 u186 u187 u188 u189 u190 u191 u192 u193 u194 u195 u196 u197 u198 u199 u200 u201 u202 u203 u204 u205 u206 u207 u208 u209 u210 u211 u212 u213 u214 u215 u216 u217 u218 u219 u220 u221 u222 u223 u224 u225 u226 u227 hld hF hcp HRes HX h
  · exact rj_17 c1 c2 c3 c4 c5 c17 c18 c19 c20 c21 u13 u14 u15 u16 u22 u23 u24 u25 u26 u27 u28 u29 u30 u31 u32 u33 u34 u35 u36 u37 u38 u39 u40 u41 u42 u43 u44 u45 u46 u47 u48 u49 u50 u51 u52 u53 u54 u55 u56 u57 u58 u59 u60 u61 u62 u63 u64 u65 u66 u67 u68 u69 u70 u71 u72 u73 u74 u75 u76 u77 u78 u79 u80 u81 u82 u83 u84 u85 u86 u87 u88 u89 u90 u91 u92 u93 u94 u95 u96 u97 u98 u99 u100 u101 u102 u103 u104 u105 u106 u107 u108 u109 u110 u111 u112 u113 u114 u115 u116 u117 u118 u119 u120 u121 u122 u123 u124 u125 u126 u127 u128 u129 u130 u131 u132 u133 u134 u135 u136 u137 u138 u139 u140 u141 u142 u143 u144 u145 u146 u147 u148 u149 u150 u151 u152 u153 u154 u155 u156 u157 u158 u159 u160 u161 u162 u163 u164 u165 u166 u167 u168 u169 u170 u171 u172 u173 u174 u175 u176 u177 u178 u179 u180 u181 u182 u183 u184 u185 u186 u187 u188 u189 u190 u191 u192 u193 u194 u195 u196 u197 u198 u199 u200 u201 u202 u203 u204 u205 u206 u207 u208 u209 u210 u211 u212 u213 u214 u215 u216 u217 u218 u219 u220 u221 u222 u223 u224 u225 u226 u227 hld hF hcp HRes HX h
  · exact rj_18 c1 c2 c3 c4 c5 c17 c18 c19 c20 c21 u13 u14 u15 u16 u22 u23 u24 u25 u26 u27 u28 u29 u30 u31 u32 u33 u34 u35 u36 u37 u38 u39 u40 u41 u42 u43 u44 u45 u46 u47 u48 u49 u50 u51 u52 u53 u54 u55 u56 u57 u58 u59 u60 u61 u62 u63 u64 u65 u66 u67 u68 u69 u70 u71 u72 u73 u74 u75 u76 u77 u78 u79 u80 u81 u82 u83 u84 u85 u86 u87 u88 u89 u90 u91 u92 u93 u94 u95 u96 u97 u98 u99 u100 u101 u102 u103 u104 u105 u106 u107 u108 u109 u110 u111 u112 u113 u114 u115 u116 u117 u118 u119 u120 u121 u122 u123 u124 u125 u126 u127 u128 u129 u130 u131 u132 u133 u134 u135 u136 u137 u138 u139 u140 u141 u142 u143 u144 u145 u146 u147 u148 u149 u150 u151 u152 u153 u154 u155 u156 u157 u158 u159 u160 u161 u162 u163 u164 u165 u166 u167 u168 u169 u170 u171 u172 u173 u174 u175 u176 u177 u178 u179 u180 u181 u182 u183 u184 u185 u186 u187 u188 u189 u190 u191 u192 u193 u194 u195 u196 u197 u198 u199 u200 u201 u202 u203 u204 u205 u206 u207 u208 u209 u210 u211 u212 u213 u214 u215 u216 u217 u218 u219 u220 u221 u222 u223 u224 u225 u226 u227 hld hF hcp HRes HX h
set_option maxHeartbeats 8000000 in
set_option maxRecDepth 1000000 in
theorem rj_loop {b : List UInt8} {ins : List Ins} {fl : List Int} {cp gf : Nat} {w w4 wr : World} {A : Bool} {Ru St : Nat} {vs : Value} (c1 c2 c3 c4 c5 c17 c18 c19 c20 c21 : Value) (u13 u14 u15 u16 u22 u23 u24 u25 u26 u27 u28 u29 u30 u31 u32 u33 u34 u35 u36 u37 u38 u39 u40 u41 u42 u43 u44 u45 u46 u47 u48 u49 u50 u51 u52 u53 u54 u55 u56 u57 u58 u59 u60 u61 u62 u63 u64 u65 u66 u67 u68 u69 u70 u71 u72 u73 u74 u75 u76 u77 u78 u79 u80 u81 u82 u83 u84 u85 u86 u87 u88 u89 u90 u91 u92 u93 u94 u95 u96 u97 u98 u99 u100 u101 u102 u103 u104 u105 u106 u107 u108 u109 u110 u111 u112 u113 u114 u115 u116 u117 u118 u119 u120 u121 u122 u123 u124 u125 u126 u127 u128 u129 u130 u131 u132 u133 u134 u135 u136 u137 u138 u139 u140 u141 u142 u143 u144 u145 u146 u147 u148 u149 u150 u151 u152 u153 u154 u155 u156 u157 u158 u159 u160 u161 u162 u163 u164 u165 u166 u167 u168 u169 u170 u171 u172 u173 u174 u175 u176 u177 u178 u179 u180 u181 u182 u183 u184 u185 u186 u187 u188 u189 u190 u191 u192 u193 u194 u195 u196 u197 u198 u199 u200 u201 u202 u203 u204 u205 u206 u207 u208 u209 u210 u211 u212 u213 u214 u215 u216 u217 u218 u219 u220 u221 u222 u223 u224 u225 u226 u227 : Value) (hld : loadOf b = some ins) (hF : FieldsT fl) (hcp : cp < w.heap.size) (HRes : Hid (∀ W, Below w4.heap.size w4 W → W.heap[w.heap.size + 1 + 1]? = some (.cells #[.bool false, .int .i64 0, .int .i64 0] 40 (0, 0)) ∧ Below w.heap.size w W)) (HX : Hid (RJX b ins fl cp gf w4 wr A Ru St 3 0 vs)) :
    Code.wp Tryz.prog (Code.loop ((Tryz.f26.body.bind loopIn).getD .skip)) (JQ (JRj b w A Ru St)) ⟨#[.pointer (some ⟨cp, 0, none⟩), c1, c2, c3, c4, c5, .pointer (some ⟨w.heap.size + 1 + 1, 0, none⟩), .slice (some ⟨gf, 0, none⟩) 9 9, vs, .slice (some ⟨w4.heap.size, 0, none⟩) 256 256, .slice (some ⟨w4.heap.size + 1, 0, none⟩) 5 5, .int .i64 3, .int .i64 0, u13, u14, u15, u16, c17, c18, c19, c20, c21, u22, u23, u24, u25, u26, u27, u28, u29, u30, u31, u32, u33, u34, u35, u36, u37, u38, u39, u40, u41, u42, u43, u44, u45, u46, u47, u48, u49, u50, u51, u52, u53, u54, u55, u56, u57, u58, u59, u60, u61, u62, u63, u64, u65, u66, u67, u68, u69, u70, u71, u72, u73, u74, u75, u76, u77, u78, u79, u80, u81, u82, u83, u84, u85, u86, u87, u88, u89, u90, u91, u92, u93, u94, u95, u96, u97, u98, u99, u100, u101, u102, u103, u104, u105, u106, u107, u108, u109, u110, u111, u112, u113, u114, u115, u116, u117, u118, u119, u120, u121, u122, u123, u124, u125, u126, u127, u128, u129, u130, u131, u132, u133, u134, u135, u136, u137, u138, u139, u140, u141, u142, u143, u144, u145, u146, u147, u148, u149, u150, u151, u152, u153, u154, u155, u156, u157, u158, u159, u160, u161, u162, u163, u164, u165, u166, u167, u168, u169, u170, u171, u172, u173, u174, u175, u176, u177, u178, u179, u180, u181, u182, u183, u184, u185, u186, u187, u188, u189, u190, u191, u192, u193, u194, u195, u196, u197, u198, u199, u200, u201, u202, u203, u204, u205, u206, u207, u208, u209, u210, u211, u212, u213, u214, u215, u216, u217, u218, u219, u220, u221, u222, u223, u224, u225, u226, u227], []⟩ wr := by
  refine wp_loop (JI b ins fl cp gf w w4 A Ru St c1 c2 c3 c4 c5 c17 c18 c19 c20 c21) (JMu b) ?_ (fun a w'' hI => rj_round c1 c2 c3 c4 c5 c17 c18 c19 c20 c21 hld hF hcp HRes a w'' hI)
  unfold JI
  exact ⟨_, _, _, _, _, _, _, _, _, _, _, _, _, _, _, _, _, _, _, _, _, _, _, _, _, _, _, _, _, _, _, _, _, _, _, _, _, _, _, _, _, _, _, _, _, _, _, _, _, _, _, _, _, _, _, _, _, _, _, _, _, _, _, _, _, _, _, _, _, _, _, _, _, _, _, _, _, _, _, _, _, _, _, _, _, _, _, _, _, _, _, _, _, _, _, _, _, _, _, _, _, _, _, _, _, _, _, _, _, _, _, _, _, _, _, _, _, _, _, _, _, _, _, _, _, _, _, _, _, _, _, _, _, _, _, _, _, _, _, _, _, _, _, _, _, _, _, _, _, _, _, _, _, _, _, _, _, _, _, _, _, _, _, _, _, _, _, _, _, _, _, _, _, _, _, _, _, _, _, _, _, _, _, _, _, _, _, _, _, _, _, _, _, _, _, _, _, _, _, _, _, _, _, _, _, _, _, _, _, _, _, _, _, ⟨3, 0, rfl, rfl, HX⟩, rfl⟩
end Go.Proofs.YtfkdailfcmnjlaaGreatDoor

namespace Go.Proofs.YtfkdailfcmnjlaaGreatDoor
open Go Go.RowKit
set_option maxRecDepth 100000
attribute [local go_sem ↓] Go.wp_at_zero Go.wp_at_succ
set_option maxHeartbeats 8000000 in
set_option maxRecDepth 1000000 in
theorem rjudge_any {b : List UInt8} {ins : List Ins} {cp : Nat} {w : World} {A : Bool} {Ru St : Nat} {lv mv : Value} (e : Ev) (s : Stt) (hld : loadOf b = some ins) (hcp : w.heap[cp]? = some (.cells #[S b] 130 (0, 0))) (h1 : PairsAt lv s.levels w) (h2 : PairsAt mv s.members w) (hwa : In64 e.wants) (hF : FieldsT (fieldsL e s)) (hj : judgeOf b ins (fieldsL e s) = some (A, Ru, St)) :
    Calls Tryz.prog 26 #[.pointer (some ⟨cp, 0, none⟩), evV e, sttV lv mv s] w fun en w' => en = .returned (verdV A Ru St) ∧ Below w.heap.size w w' := by
  have hmk : ∀ w : World, (Instr.makeSlice 116 (.int .i64 256) (.int .i64 256)).run Tryz.prog w = .ok (.slice (some ⟨w.heap.size, 0, none⟩) 256 256) (w.alloc (.cells (madeCells #[.int .i64 0] 256) 2)) := run_make_row' (P := Tryz.prog) 116 2 (.int .i64 0) 8 Tryz.underlying116 info_i64j rfl .i64 .i64 256 (by omega) (by omega)
  have W1 := fun W (hb : Below w.heap.size w W) => fields_ref e s W (h1.below hb) (h2.below hb) hwa
  have HFL : Hid (FieldsT (fieldsL e s) ∧ judgeOf b ins (fieldsL e s) = some (A, Ru, St)) := ⟨hF, hj⟩
  generalize hfl : fieldsL e s = fl at *
  clear hfl hF hj
  obtain ⟨sn, tg, wa, nd, wh⟩ := e
  obtain ⟨ls, df, ms, op⟩ := s
  obtain ⟨_, la, lc, rfl, _⟩ := h1
  obtain ⟨_, ma, mc, rfl, _⟩ := h2
  unfold evV sttV at *
  simp only [] at *
  obtain ⟨w3, hw3⟩ : ∃ w3, ((w.alloc (.cells #[S sn, S tg, .int .i64 wa, .int .i64 nd, .int .i64 wh] 46)).alloc (.cells #[.slice la ls.length lc, .int .i64 df, .slice ma ms.length mc, .bool op] 50)).alloc (.cells #[.bool false, .int .i64 0, .int .i64 0] 40) = w3 := ⟨_, rfl⟩
  have hb3 : Below w.heap.size w w3 := by rw [← hw3]; exact (((Below.refl _ w).alloc (Nat.le_refl _) _).alloc (by simp) _).alloc (by simp; omega) _
  have hk1 : w3.heap[w.heap.size]? = some (.cells #[S sn, S tg, .int .i64 wa, .int .i64 nd, .int .i64 wh] 46 (0, 0)) := by rw [← hw3]; exact (Below.heap_alloc _ _ _ (by simp; omega)).trans ((Below.heap_alloc _ _ _ (by simp)).trans (heap_alloc_new w _))
  have hk2 : w3.heap[w.heap.size + 1]? = some (.cells #[.slice la ls.length lc, .int .i64 df, .slice ma ms.length mc, .bool op] 50 (0, 0)) := by
    rw [← hw3]
    refine (Below.heap_alloc _ _ _ (by simp)).trans ?_
    have := heap_alloc_new (w.alloc (.cells #[S sn, S tg, .int .i64 wa, .int .i64 nd, .int .i64 wh] 46)) (.cells #[.slice la ls.length lc, .int .i64 df, .slice ma ms.length mc, .bool op] 50)
    rw [World.size_alloc] at this; exact this
  have hk3 : w3.heap[w.heap.size + 1 + 1]? = some (.cells #[.bool false, .int .i64 0, .int .i64 0] 40 (0, 0)) := by
    rw [← hw3]
    have := heap_alloc_new ((w.alloc (.cells #[S sn, S tg, .int .i64 wa, .int .i64 nd, .int .i64 wh] 46)).alloc (.cells #[.slice la ls.length lc, .int .i64 df, .slice ma ms.length mc, .bool op] 50)) (.cells #[.bool false, .int .i64 0, .int .i64 0] 40)
    rw [World.size_alloc, World.size_alloc] at this; exact this
  have HSZ : Hid (w3.heap.size = w.heap.size + 1 + 1 + 1) := by show w3.heap.size = _; rw [← hw3, World.size_alloc, World.size_alloc, World.size_alloc]
  have V1 := W1 w3 hb3
  have HCP : Hid _ := hcp
  have HW : Hid _ := hw3
  have HK3 : Hid _ := hk3
  have HB3 : Hid _ := hb3
  have HLD : Hid _ := hld
  clear W1 hcp hw3 hk1 hk2 hk3 hb3 hld
  go_enter Tryz.func26, Tryz.ntmps26
  go_wp2_with (
    go_at_call 41
    rw [HW.out]
    refine V1.mono ?_
    rintro e w4 ⟨⟨gf, rfl, hgf⟩, hb4⟩
    have HGF : Hid _ := hgf
    have HB4 : Hid _ := hb4
    clear hgf hb4 V1)
  have HW0 : Hid (RJX b ins fl cp gf w4 ((w4.alloc (.cells (madeCells #[.int .i64 0] 256) 2)).alloc (.cells #[S [43], S [45], S [61], S [60], S [60, 61]] 9)) A Ru St 3 0 (.slice none 0 0)) := rjx_first HLD.out HFL.out.1 HFL.out.2 ((HB4.out.block _ (by have := lt_of_get HCP.out; have := HSZ.out; omega)).trans ((HB3.out.block _ (lt_of_get HCP.out)).trans HCP.out)) HGF.out
  have hcp : cp < w.heap.size := lt_of_get HCP.out
  have HRes : Hid (∀ W, Below w4.heap.size w4 W → W.heap[w.heap.size + 1 + 1]? = some (.cells #[.bool false, .int .i64 0, .int .i64 0] 40 (0, 0)) ∧ Below w.heap.size w W) := fun W hb => by
    have hs := HSZ.out
    have h4 := HB4.out.size
    refine ⟨(hb.block _ (by omega)).trans ((HB4.out.block _ (by omega)).trans HK3.out), ?_⟩
    have q := HB3.out.trans (HB4.out.mono HB3.out.size)
    exact q.trans (hb.mono q.size)
  have hld := HLD.out
  have hF := HFL.out.1
  clear HGF HCP HK3 HB3 HB4 HSZ HW hmk
  refine wp_mono (rj_loop _ _ _ _ _ _ _ _ _ _ _ _ _ _ _ _ _ _ _ _ _ _ _ _ _ _ _ _ _ _ _ _ _ _ _ _ _ _ _ _ _ _ _ _ _ _ _ _ _ _ _ _ _ _ _ _ _ _ _ _ _ _ _ _ _ _ _ _ _ _ _ _ _ _ _ _ _ _ _ _ _ _ _ _ _ _ _ _ _ _ _ _ _ _ _ _ _ _ _ _ _ _ _ _ _ _ _ _ _ _ _ _ _ _ _ _ _ _ _ _ _ _ _ _ _ _ _ _ _ _ _ _ _ _ _ _ _ _ _ _ _ _ _ _ _ _ _ _ _ _ _ _ _ _ _ _ _ _ _ _ _ _ _ _ _ _ _ _ _ _ _ _ _ _ _ _ _ _ _ _ _ _ _ _ _ _ _ _ _ _ _ _ _ _ _ _ _ _ _ _ _ _ _ _ _ _ _ _ _ _ _ _ _ _ _ _ _ _ _ _ hld hF hcp HRes HW0) ?_
  intro e act w' h
  cases e with
  | ret => exact h
  | _ => exact h.elim
end Go.Proofs.YtfkdailfcmnjlaaGreatDoor

namespace Go.Proofs.YtfkdailfcmnjlaaGreatDoor
open Go Go.RowKit
set_option maxRecDepth 100000
attribute [local go_sem ↓] Go.wp_at_zero Go.wp_at_succ

/-- The lent lists are the lists. -/
theorem LoanAt.pairsJ {w wx : World} {lb g1 g2 : Nat} {s : Stt} {lv mv : Value} (h : LoanAt w wx lb g1 g2 s.levels.length s.members.length (entL s.levels 8) (entL s.members 8)) (h1 : PairsAt lv s.levels w) (h2 : PairsAt mv s.members w) :
    PairsAt (.slice (some ⟨g1, 0, none⟩) s.levels.length (s.levels.length + 8)) s.levels wx ∧ PairsAt (.slice (some ⟨g2, 0, none⟩) s.members.length (s.members.length + 8)) s.members wx := by
  obtain ⟨n1, a1, c1, _, q1⟩ := h1
  obtain ⟨n2, a2, c2, _, q2⟩ := h2
  refine ⟨⟨n1, _, _, rfl, fun i hi => ?_⟩, ⟨n2, _, _, rfl, fun i hi => ?_⟩⟩
  · obtain ⟨_, _, _, _, _, hn⟩ := q1 i hi
    have e : entL s.levels 8 i = s.levels.getD i ([], 0) := by unfold entL; rw [if_pos hi]
    refine ⟨g1, 0, rfl, ?_, ?_, hn⟩
    · rw [Nat.zero_add, h.row1.fst i (by omega), e]
    · rw [Nat.zero_add, h.row1.snd i (by omega), e]
  · obtain ⟨_, _, _, _, _, hn⟩ := q2 i hi
    have e : entL s.members 8 i = s.members.getD i ([], 0) := by unfold entL; rw [if_pos hi]
    refine ⟨g2, 0, rfl, ?_, ?_, hn⟩
    · rw [Nat.zero_add, h.row2.fst i (by omega), e]
    · rw [Nat.zero_add, h.row2.snd i (by omega), e]
set_option maxHeartbeats 8000000 in
theorem judged_any {lv mv : Value} {b : List UInt8} {ins : List Ins} {lp cp gi cap rp : Nat} {A : Bool} {Ru St : Nat} (e : Ev) (s : Stt) (w : World) (hld : loadOf b = some ins) (hlp : w.heap[lp]? = some (.cells #[.pointer (some ⟨cp, 0, none⟩)] 207 (0, 0))) (hca : CodeAt w cp gi cap (byteAt b 2) (byteAt b 1) ins) (hrp : w.heap[rp]? = some (.cells #[S b] 130 (0, 0))) (hj : judgeOf b ins (fieldsL e s) = some (A, Ru, St)) (h1 : PairsAt lv s.levels w) (h2 : PairsAt mv s.members w) (hl1 : s.levels.length ≤ 5900000000000) (hl2 : s.members.length ≤ 5900000000000) (hw : In64 e.wants) (hF : FieldsT (fieldsL e s)) :
    Calls Tryz.prog 31 #[.pointer (some ⟨lp, 0, none⟩), .pointer (some ⟨rp, 0, none⟩), evV e, sttV lv mv s] w fun en w' => en = .returned (.bool true) ∧ Below w.heap.size w w' := by
  have W1 := fun W (h : Below w.heap.size w W) => lend_any s W (h1.below h) (h2.below h) hl1 hl2
  have W2 := fun (W : World) (lv' mv' : Value) (h : Below w.heap.size w W) (p1 : PairsAt lv' s.levels W) (p2 : PairsAt mv' s.members W) => gjudge_any e s hld ((h.block _ (lt_of_get hlp)).trans hlp) (hca.below h) p1 p2 hF hj
  have W3 := fun (W : World) (h : Below w.heap.size w W) => rjudge_any (w := W) e s hld ((h.block _ (lt_of_get hrp)).trans hrp) (h1.below h) (h2.below h) hw hF hj
  have W4 := fun (W WX : World) (lb g1 g2 : Nat) (h : Below w.heap.size w W) (hx : LoanAt W WX lb g1 g2 s.levels.length s.members.length (entL s.levels 8) (entL s.members 8)) => back_any s W WX (h1.below h) (h2.below h) hl1 hl2 hx
  have HPR : Hid (∀ (W WX : World) (lb g1 g2 : Nat), Below w.heap.size w W → LoanAt W WX lb g1 g2 s.levels.length s.members.length (entL s.levels 8) (entL s.members 8) → PairsAt (.slice (some ⟨g1, 0, none⟩) s.levels.length (s.levels.length + 8)) s.levels WX ∧ PairsAt (.slice (some ⟨g2, 0, none⟩) s.members.length (s.members.length + 8)) s.members WX) := fun W WX lb g1 g2 hb hx => hx.pairsJ (h1.below hb) (h2.below hb)
  have hol : lv.oneCell' = true := by obtain ⟨_, a, c, rfl, _⟩ := h1; rfl
  have hom : mv.oneCell' = true := by obtain ⟨_, a, c, rfl, _⟩ := h2; rfl
  clear h1 h2 hF hw hj hld hlp hca hrp
  unfold verdV at W2 W3
  unfold evV sttV at *
  obtain ⟨sn, tg, wa, nd, wh⟩ := e
  obtain ⟨ls, df, ms, op⟩ := s
  simp only [] at *
  have H0 : Hid (Below w.heap.size w ((w.alloc (.cells #[S sn, S tg, .int .i64 wa, .int .i64 nd, .int .i64 wh] 46 (0, 0))).alloc (.cells #[lv, .int .i64 df, mv, .bool op] 50 (0, 0))) ∧ ((w.alloc (.cells #[S sn, S tg, .int .i64 wa, .int .i64 nd, .int .i64 wh] 46 (0, 0))).alloc (.cells #[lv, .int .i64 df, mv, .bool op] 50 (0, 0))).heap[w.heap.size]? = some (.cells #[S sn, S tg, .int .i64 wa, .int .i64 nd, .int .i64 wh] 46 (0, 0)) ∧ ((w.alloc (.cells #[S sn, S tg, .int .i64 wa, .int .i64 nd, .int .i64 wh] 46 (0, 0))).alloc (.cells #[lv, .int .i64 df, mv, .bool op] 50 (0, 0))).heap[w.heap.size + 1]? = some (.cells #[lv, .int .i64 df, mv, .bool op] 50 (0, 0))) :=
    ⟨((Below.refl _ _).alloc (Nat.le_refl _) _).alloc (by simp) _, by rw [Below.heap_alloc _ _ _ (by simp)]; exact heap_alloc_new w _, by have e := heap_alloc_new (w.alloc (.cells #[S sn, S tg, .int .i64 wa, .int .i64 nd, .int .i64 wh] 46 (0, 0))) (.cells #[lv, .int .i64 df, mv, .bool op] 50 (0, 0)); rw [World.size_alloc] at e; exact e⟩
  go_enter Tryz.func31, Tryz.ntmps31
  go_wp2_with fail
  obtain ⟨hB0, hE0, hS0⟩ := H0.out
  clear H0
  generalize ((w.alloc (.cells #[S sn, S tg, .int .i64 wa, .int .i64 nd, .int .i64 wh] 46 (0, 0))).alloc (.cells #[lv, .int .i64 df, mv, .bool op] 50 (0, 0))) = wz at *
  refine (W1 wz hB0).mono ?_
  rintro en w1 ⟨lb, g1, g2, rfl, hLo⟩
  clear W1
  have hb1 : Below wz.heap.size wz w1 := hLo.bl
  have hB1 := hB0.trans (hb1.mono hB0.size)
  have hE1 := (hb1.block _ (lt_of_get hE0)).trans hE0
  have hS1 := (hb1.block _ (lt_of_get hS0)).trans hS0
  have hbM : Below w1.heap.size w1 (w1.alloc (.cells #[.slice (some ⟨g1, 0, none⟩) ls.length (ls.length + 8), .int .i64 df, .slice (some ⟨g2, 0, none⟩) ms.length (ms.length + 8), .bool op] 50 (0, 0))) := (Below.refl _ _).alloc (Nat.le_refl _) _
  have hB2 := hB1.trans (hbM.mono hB1.size)
  have hLo2 := hLo.below hbM
  have hE2 := (hbM.block _ (lt_of_get hE1)).trans hE1
  have hS2 := (hbM.block _ (lt_of_get hS1)).trans hS1
  have hM2 : (w1.alloc (.cells #[.slice (some ⟨g1, 0, none⟩) ls.length (ls.length + 8), .int .i64 df, .slice (some ⟨g2, 0, none⟩) ms.length (ms.length + 8), .bool op] 50 (0, 0))).heap[w1.heap.size]? = _ := heap_alloc_new w1 _
  have H2 : Hid _ := And.intro hLo2 (And.intro hB2 (And.intro hE2 (And.intro hS2 hM2)))
  have HB0 : Hid _ := hB0
  have c0 := cell_of_row w1 w.heap.size 0 _ _ _ hE1
  have c1 := cell_of_row w1 w.heap.size 1 _ _ _ hE1
  have c2 := cell_of_row w1 w.heap.size 2 _ _ _ hE1
  have c3 := cell_of_row w1 w.heap.size 3 _ _ _ hE1
  have c4 := cell_of_row w1 w.heap.size 4 _ _ _ hE1
  simp only [List.getElem?_toArray, List.getElem?_cons_zero, List.getElem?_cons_succ] at c0 c1 c2 c3 c4
  have k1 : w.heap.size < w1.heap.size := lt_of_get hE1
  have k2 : w.heap.size ≠ w1.heap.size := by omega
  have k3 : w1.heap.size ≠ w.heap.size := by omega
  clear hLo hb1 hB1 hE1 hS1 hbM hB2 hLo2 hE2 hS2 hM2 hB0 hE0 hS0
  go_wp2_with fail
  obtain ⟨hLo2, hB2, hE2, hS2, hM2⟩ := H2.out
  clear H2 c0 c1 c2 c3 c4 k1 k2 k3
  generalize hbm : w1.heap.size = bm at *
  clear hbm
  generalize (w1.alloc (.cells #[.slice (some ⟨g1, 0, none⟩) ls.length (ls.length + 8), .int .i64 df, .slice (some ⟨g2, 0, none⟩) ms.length (ms.length + 8), .bool op] 50 (0, 0))) = w2 at *
  obtain ⟨p1, p2⟩ := HPR.out wz w2 lb g1 g2 HB0.out hLo2
  refine (W2 w2 _ _ hB2 p1 p2).mono ?_
  rintro en w3 ⟨rfl, hb3⟩
  clear W2 HPR p1 p2
  have hB3 := hB2.trans (hb3.mono hB2.size)
  have hLo3 := hLo2.below hb3
  have hE3 := (hb3.block _ (lt_of_get hE2)).trans hE2
  have hS3 := (hb3.block _ (lt_of_get hS2)).trans hS2
  clear hLo2 hB2 hE2 hS2 hM2 hb3
  have hbM : Below w3.heap.size w3 (w3.alloc (.cells #[.bool A, .int .i64 (Ru : Nat), .int .i64 (St : Nat)] 40 (0, 0))) := (Below.refl _ _).alloc (Nat.le_refl _) _
  have hB4 := hB3.trans (hbM.mono hB3.size)
  have hLo4 := hLo3.below hbM
  have hE4 := (hbM.block _ (lt_of_get hE3)).trans hE3
  have hS4 := (hbM.block _ (lt_of_get hS3)).trans hS3
  have hV4 : (w3.alloc (.cells #[.bool A, .int .i64 (Ru : Nat), .int .i64 (St : Nat)] 40 (0, 0))).heap[w3.heap.size]? = _ := heap_alloc_new w3 _
  have H4 : Hid _ := And.intro hLo4 (And.intro hB4 (And.intro hE4 (And.intro hS4 hV4)))
  have c0 := cell_of_row w3 w.heap.size 0 _ _ _ hE3
  have c1 := cell_of_row w3 w.heap.size 1 _ _ _ hE3
  have c2 := cell_of_row w3 w.heap.size 2 _ _ _ hE3
  have c3 := cell_of_row w3 w.heap.size 3 _ _ _ hE3
  have c4 := cell_of_row w3 w.heap.size 4 _ _ _ hE3
  have d0 := cell_of_row w3 (w.heap.size + 1) 0 _ _ _ hS3
  have d1 := cell_of_row w3 (w.heap.size + 1) 1 _ _ _ hS3
  have d2 := cell_of_row w3 (w.heap.size + 1) 2 _ _ _ hS3
  have d3 := cell_of_row w3 (w.heap.size + 1) 3 _ _ _ hS3
  simp only [List.getElem?_toArray, List.getElem?_cons_zero, List.getElem?_cons_succ] at c0 c1 c2 c3 c4 d0 d1 d2 d3
  have k1 : w.heap.size < w3.heap.size := lt_of_get hE3
  have k2 : w.heap.size ≠ w3.heap.size := by omega
  have k3 : w3.heap.size ≠ w.heap.size := by omega
  have j1 : w.heap.size + 1 < w3.heap.size := lt_of_get hS3
  have j2 : w.heap.size + 1 ≠ w3.heap.size := by omega
  have j3 : w3.heap.size ≠ w.heap.size + 1 := by omega
  clear hB3 hLo3 hE3 hS3 hbM hB4 hLo4 hE4 hS4 hV4
  go_wp2_with fail
  obtain ⟨hLo4, hB4, hE4, hS4, hV4⟩ := H4.out
  clear H4 c0 c1 c2 c3 c4 d0 d1 d2 d3 k1 k2 k3 j1 j2 j3
  generalize hbv : w3.heap.size = bv at *
  clear hbv
  generalize (w3.alloc (.cells #[.bool A, .int .i64 (Ru : Nat), .int .i64 (St : Nat)] 40 (0, 0))) = w4 at *
  refine (W3 w4 hB4).mono ?_
  rintro en w5 ⟨rfl, hb5⟩
  clear W3
  have hB5 := hB4.trans (hb5.mono hB4.size)
  have hLo5 := hLo4.below hb5
  have hS5 := (hb5.block _ (lt_of_get hS4)).trans hS4
  have hV5 := (hb5.block _ (lt_of_get hV4)).trans hV4
  have hbM : Below w5.heap.size w5 (w5.alloc (.cells #[.bool A, .int .i64 (Ru : Nat), .int .i64 (St : Nat)] 40 (0, 0))) := (Below.refl _ _).alloc (Nat.le_refl _) _
  have hB6 := hB5.trans (hbM.mono hB5.size)
  have hLo6 := hLo5.below hbM
  have hV6 := (hbM.block _ (lt_of_get hV5)).trans hV5
  have hU6 : (w5.alloc (.cells #[.bool A, .int .i64 (Ru : Nat), .int .i64 (St : Nat)] 40 (0, 0))).heap[w5.heap.size]? = _ := heap_alloc_new w5 _
  have H6 : Hid _ := And.intro hLo6 (And.intro hB6 (And.intro hV6 hU6))
  have d0 := cell_of_row w5 (w.heap.size + 1) 0 _ _ _ hS5
  have d1 := cell_of_row w5 (w.heap.size + 1) 1 _ _ _ hS5
  have d2 := cell_of_row w5 (w.heap.size + 1) 2 _ _ _ hS5
  have d3 := cell_of_row w5 (w.heap.size + 1) 3 _ _ _ hS5
  simp only [List.getElem?_toArray, List.getElem?_cons_zero, List.getElem?_cons_succ] at d0 d1 d2 d3
  have j1 : w.heap.size + 1 < w5.heap.size := lt_of_get hS5
  have j2 : w.heap.size + 1 ≠ w5.heap.size := by omega
  have j3 : w5.heap.size ≠ w.heap.size + 1 := by omega
  clear hB5 hLo5 hS5 hV5 hbM hB6 hLo6 hV6 hU6 hLo4 hB4 hE4 hS4 hV4 hb5
  go_wp2_with fail
  obtain ⟨hLo6, hB6, hV6, hU6⟩ := H6.out
  clear H6 d0 d1 d2 d3 j1 j2 j3
  generalize hbu : w5.heap.size = bu at *
  clear hbu
  generalize (w5.alloc (.cells #[.bool A, .int .i64 (Ru : Nat), .int .i64 (St : Nat)] 40 (0, 0))) = w6 at *
  have W7 := W4 wz w6 lb g1 g2 HB0.out hLo6
  refine W7.mono ?_
  rintro en w7 ⟨rfl, hb7, hk7⟩
  clear W4 W7
  have hB7 := HB0.out.trans (hb7.mono HB0.out.size)
  have nv1 : bv ≠ g1 := fun e => by
    obtain ⟨cs, hc, _⟩ := hLo6.row1.blk
    rw [← e, hV6] at hc; simp at hc
  have nv2 : bv ≠ g2 := fun e => by
    obtain ⟨cs, hc, _⟩ := hLo6.row2.blk
    rw [← e, hV6] at hc; simp at hc
  have nu1 : bu ≠ g1 := fun e => by
    obtain ⟨cs, hc, _⟩ := hLo6.row1.blk
    rw [← e, hU6] at hc; simp at hc
  have nu2 : bu ≠ g2 := fun e => by
    obtain ⟨cs, hc, _⟩ := hLo6.row2.blk
    rw [← e, hU6] at hc; simp at hc
  have hV7 := (hk7 bv (lt_of_get hV6) nv1 nv2).trans hV6
  have hU7 := (hk7 bu (lt_of_get hU6) nu1 nu2).trans hU6
  have vc := fun j => cell_of_row w7 bv j _ _ _ hV7
  have uc := fun j => cell_of_row w7 bu j _ _ _ hU7
  have v0 : w7.cell? ⟨bv, 0, none⟩ = some (.bool A) := vc 0
  have v1 : w7.cell? ⟨bv, 1, none⟩ = some (.int .i64 (Ru : Nat)) := vc 1
  have v2 : w7.cell? ⟨bv, 2, none⟩ = some (.int .i64 (St : Nat)) := vc 2
  have u0 : w7.cell? ⟨bu, 0, none⟩ = some (.bool A) := uc 0
  have u1 : w7.cell? ⟨bu, 1, none⟩ = some (.int .i64 (Ru : Nat)) := uc 1
  have u2 : w7.cell? ⟨bu, 2, none⟩ = some (.int .i64 (St : Nat)) := uc 2
  have HB7 : Hid _ := hB7
  clear hb7 hk7 hB7 hV7 hU7 hLo6 hB6 hV6 hU6 nv1 nv2 nu1 nu2 HB0 vc uc
  go_wp2_with fail
  go_ret
  exact ⟨rfl, HB7.out⟩
end Go.Proofs.YtfkdailfcmnjlaaGreatDoor
