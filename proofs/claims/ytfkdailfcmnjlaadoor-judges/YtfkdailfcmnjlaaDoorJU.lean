/-
  A round of the document's Judge: one kind of instruction. A round of the document's Judge: one kind of instruction. The round of the document's Judge, and its loop. The document's Judge.
-/
import Derived.Test.YtfkdailfcmnjlaaDoorJA
import Derived.Test.YtfkdailfcmnjlaaDoorJB
import Derived.Test.YtfkdailfcmnjlaaDoorJC
import Derived.Test.YtfkdailfcmnjlaaDoorJD
import Derived.Test.YtfkdailfcmnjlaaDoorJE
import Derived.Test.YtfkdailfcmnjlaaDoorJF
import Derived.Test.YtfkdailfcmnjlaaDoorJG
import Derived.Test.YtfkdailfcmnjlaaDoorJH
import Derived.Test.YtfkdailfcmnjlaaDoorJI
import Derived.Test.YtfkdailfcmnjlaaDoorJJ
import Derived.Test.YtfkdailfcmnjlaaDoorJK
import Derived.Test.YtfkdailfcmnjlaaDoorJL
import Derived.Test.YtfkdailfcmnjlaaDoorJM
import Derived.Test.YtfkdailfcmnjlaaDoorJN
import Derived.Test.YtfkdailfcmnjlaaDoorJO
import Derived.Test.YtfkdailfcmnjlaaDoorJP
import Derived.Test.YtfkdailfcmnjlaaDoorJQ
import Derived.Test.YtfkdailfcmnjlaaDoorJR
import Derived.Test.YtfkdailfcmnjlaaDoorJS
import Derived.Test.YtfkdailfcmnjlaaDoorJT
set_option linter.unusedVariables false
set_option linter.unusedSimpArgs false
namespace Go.Proofs.YtfkdailfcmnjlaaDoor
open Go Go.RowKit
set_option maxRecDepth 100000
attribute [local go_sem ↓] Go.wp_at_zero Go.wp_at_succ
set_option maxHeartbeats 8000000 in
set_option maxRecDepth 1000000 in
theorem rj_17 {b : List UInt8} {ins : List Ins} {fl : List Int} {cp gf : Nat} {w w4 wr : World} {A : Bool} {Ru St a q : Nat} {vs : Value} (c1 c2 c3 c4 c5 c17 c18 c19 c20 c21 : Value) (u13 u14 u15 u16 u22 u23 u24 u25 u26 u27 u28 u29 u30 u31 u32 u33 u34 u35 u36 u37 u38 u39 u40 u41 u42 u43 u44 u45 u46 u47 u48 u49 u50 u51 u52 u53 u54 u55 u56 u57 u58 u59 u60 u61 u62 u63 u64 u65 u66 u67 u68 u69 u70 u71 u72 u73 u74 u75 u76 u77 u78 u79 u80 u81 u82 u83 u84 u85 u86 u87 u88 u89 u90 u91 u92 u93 u94 u95 u96 u97 u98 u99 u100 u101 u102 u103 u104 u105 u106 u107 u108 u109 u110 u111 u112 u113 u114 u115 u116 u117 u118 u119 u120 u121 u122 u123 u124 u125 u126 u127 u128 u129 u130 u131 u132 u133 u134 u135 u136 u137 u138 u139 u140 u141 u142 u143 u144 u145 u146 u147 u148 u149 u150 u151 u152 u153 u154 u155 u156 u157 u158 u159 u160 u161 u162 u163 u164 u165 u166 u167 u168 u169 u170 u171 u172 u173 u174 u175 u176 u177 u178 u179 u180 u181 u182 u183 u184 u185 u186 u187 u188 u189 u190 u191 u192 u193 u194 u195 u196 u197 u198 u199 u200 u201 u202 u203 u204 u205 u206 u207 u208 u209 u210 u211 u212 u213 u214 u215 u216 u217 u218 u219 u220 u221 u222 u223 u224 u225 u226 u227 : Value) (hld : loadOf b = some ins) (hF : FieldsT fl) (hcp : cp < w.heap.size) (HRes : Hid (∀ W, Below w4.heap.size w4 W → W.heap[w.heap.size + 1 + 1]? = some (.cells #[.bool false, .int .i64 0, .int .i64 0] 44 (0, 0)) ∧ Below w.heap.size w W)) (HX : Hid (RJX b ins fl cp gf w4 wr A Ru St a q vs)) (hNN : byteAt b a = 17) :
    Code.wp Tryd.prog ((Tryd.f18.body.bind loopIn).getD .skip) (Exit.then (fun a' w'' => JI b ins fl cp gf w w4 A Ru St c1 c2 c3 c4 c5 c17 c18 c19 c20 c21 a' w'' ∧ JMu b a' w'' < b.length - a) (JQ (JR b w A Ru St))) ⟨#[.pointer (some ⟨cp, 0, none⟩), c1, c2, c3, c4, c5, .pointer (some ⟨w.heap.size + 1 + 1, 0, none⟩), .slice (some ⟨gf, 0, none⟩) 9 9, vs, .slice (some ⟨w4.heap.size, 0, none⟩) 256 256, .slice (some ⟨w4.heap.size + 1, 0, none⟩) 5 5, .int .i64 a, .int .i64 q, u13, u14, u15, u16, c17, c18, c19, c20, c21, u22, u23, u24, u25, u26, u27, u28, u29, u30, u31, u32, u33, u34, u35, u36, u37, u38, u39, u40, u41, u42, u43, u44, u45, u46, u47, u48, u49, u50, u51, u52, u53, u54, u55, u56, u57, u58, u59, u60, u61, u62, u63, u64, u65, u66, u67, u68, u69, u70, u71, u72, u73, u74, u75, u76, u77, u78, u79, u80, u81, u82, u83, u84, u85, u86, u87, u88, u89, u90, u91, u92, u93, u94, u95, u96, u97, u98, u99, u100, u101, u102, u103, u104, u105, u106, u107, u108, u109, u110, u111, u112, u113, u114, u115, u116, u117, u118, u119, u120, u121, u122, u123, u124, u125, u126, u127, u128, u129, u130, u131, u132, u133, u134, u135, u136, u137, u138, u139, u140, u141, u142, u143, u144, u145, u146, u147, u148, u149, u150, u151, u152, u153, u154, u155, u156, u157, u158, u159, u160, u161, u162, u163, u164, u165, u166, u167, u168, u169, u170, u171, u172, u173, u174, u175, u176, u177, u178, u179, u180, u181, u182, u183, u184, u185, u186, u187, u188, u189, u190, u191, u192, u193, u194, u195, u196, u197, u198, u199, u200, u201, u202, u203, u204, u205, u206, u207, u208, u209, u210, u211, u212, u213, u214, u215, u216, u217, u218, u219, u220, u221, u222, u223, u224, u225, u226, u227], []⟩ wr := by
  obtain ⟨l1, l2, l3, l4, l5, l6, C0, l7, l8⟩ := load_known hld
  have HFL : Hid _ := hF
  have HLD : Hid _ := hld
  clear l7 l8 hF hld
  obtain ⟨C, i, k, st, cl, f, hG, hpl, hS, hJ⟩ := HX.out
  have hxo := l3.each _ (getD_ins hS.hi)
  have hab := at_b hxo
  have hplt := (pl_lt l3 hS.hi).2
  have hstop := hS.stop
  have hstep := hS.step l3 rfl l6 HFL.out hG
  have hop := (num_ok hxo).op
  rw [hpl] at hab hplt
  have hcc : wr.cell? ⟨cp, 0, none⟩ = some (S b) := cell_of_row wr cp 0 _ _ _ hJ.code
  have hex := ex_drop b (a := a)
  have hq0 : (0 : Int) ≤ (a : Int) ∧ (a : Int) ≤ (b.length : Int) := by omega
  have hqs : q ≤ 4000 := by have := hS.le; have := hS.hi; omega
  have e0 : byteAt b a = (ins.getD i noIns).op := by rw [← hab.b0, byte_drop]; rfl
  rw [hNN] at e0
  generalize ins.getD i noIns = x at *
  generalize b.drop a = bb at *
  have E0 : Hid _ := e0
  clear e0 hNN
  have hb0 : 0 < (ByteArray.mk bb.toArray).size := hab.pos
  have hv0 : ((ByteArray.mk bb.toArray)[0]).toNat = x.op := (ba_at bb 0 hb0).trans hab.b0
  have hbp := hab.pos
  have hb4 : bb.length ≤ 4000 := by have := hab.len; omega
  have W2 := fun w => size_any x.op (by omega) w
  have HRs : Hid _ := HRes.out wr hJ.bel
  clear HX
  obtain ⟨sa, scap, hu8⟩ := hJ.sta.sl
  rw [List.length_reverse] at hu8
  subst hu8
  have hsl := hS.dep
  have hsz9 := size_le x.op
  have ha4 : a ≤ 4000 := by omega
  conv => arg 2; whnf
  go_upto_block 2 with (first | (go_at_call 25; refine (W2 _).mono ?_; rintro e0 w' ⟨rfl, hw'⟩; obtain rfl := hw'.symm))
  have e := E0.out.symm
  clear E0
  rw [e]
  have hsz : sizeOp 17 = 2 := rfl
  rw [hsz]
  obtain ⟨t2, t3, t4⟩ := hab.two (by rw [e]; rfl)
  have hb1 : 1 < (ByteArray.mk bb.toArray).size := by show 1 < bb.length; omega
  have hv1 : ((ByteArray.mk bb.toArray)[1]).toNat = byteAt bb 1 := ba_at bb 1 hb1
  have hnn : x.n.toNat = byteAt bb 1 := by rw [t3]; omega
  obtain ⟨hA, hRu, hSt⟩ := hstop (by omega)
  have HV : Hid (verdV A Ru St = .agg #[.bool true, .int .i64 (byteAt bb 1 : Nat), .int .i64 ((q : Int) + 1)]) := by
    show _ = _
    rw [hA, hSt, hRu, hnn, e]; rfl
  obtain ⟨hrb, hbw⟩ := HRs.out
  have rc := fun j => cell_of_row wr _ j _ _ _ hrb
  have r0 : wr.cell? ⟨w.heap.size + 1 + 1, 0, none⟩ = some (.bool false) := rc 0
  have r1 : wr.cell? ⟨w.heap.size + 1 + 1, 1, none⟩ = some (.int .i64 0) := rc 1
  have r2 : wr.cell? ⟨w.heap.size + 1 + 1, 2, none⟩ = some (.int .i64 0) := rc 2
  have rf : ∀ o, wr.frozen? ⟨w.heap.size + 1 + 1, o, none⟩ = false := fun o => by simp [World.frozen?, hrb]
  have g0 := rf 0
  have g1 := rf 1
  have g2 := rf 2
  have HBw : Hid _ := hbw
  clear hJ hS hstop hstep hG hab hxo t3 rc rf hrb hbw hA hRu hSt hnn
  generalize byteAt bb 1 = c1 at *
  go_wp2_with fail
  show JR b w A Ru St _ _
  unfold JR
  refine bodyPost_ret (v := .agg #[.bool true, .int .i64 (c1 : Nat), .int .i64 ((q : Int) + 1)]) (by simp [results, Tryd.results18, go_sem, cell_set_same, cell_set_off, some_set, r0, r1, r2]) rfl ?_
  exact ⟨by rw [HV.out], ((HBw.out.setCell (by simp; omega) _).setCell (by simp; omega) _).setCell (by simp; omega) _⟩
end Go.Proofs.YtfkdailfcmnjlaaDoor

namespace Go.Proofs.YtfkdailfcmnjlaaDoor
open Go Go.RowKit
set_option maxRecDepth 100000
attribute [local go_sem ↓] Go.wp_at_zero Go.wp_at_succ
set_option maxHeartbeats 8000000 in
set_option maxRecDepth 1000000 in
theorem rj_18 {b : List UInt8} {ins : List Ins} {fl : List Int} {cp gf : Nat} {w w4 wr : World} {A : Bool} {Ru St a q : Nat} {vs : Value} (c1 c2 c3 c4 c5 c17 c18 c19 c20 c21 : Value) (u13 u14 u15 u16 u22 u23 u24 u25 u26 u27 u28 u29 u30 u31 u32 u33 u34 u35 u36 u37 u38 u39 u40 u41 u42 u43 u44 u45 u46 u47 u48 u49 u50 u51 u52 u53 u54 u55 u56 u57 u58 u59 u60 u61 u62 u63 u64 u65 u66 u67 u68 u69 u70 u71 u72 u73 u74 u75 u76 u77 u78 u79 u80 u81 u82 u83 u84 u85 u86 u87 u88 u89 u90 u91 u92 u93 u94 u95 u96 u97 u98 u99 u100 u101 u102 u103 u104 u105 u106 u107 u108 u109 u110 u111 u112 u113 u114 u115 u116 u117 u118 u119 u120 u121 u122 u123 u124 u125 u126 u127 u128 u129 u130 u131 u132 u133 u134 u135 u136 u137 u138 u139 u140 u141 u142 u143 u144 u145 u146 u147 u148 u149 u150 u151 u152 u153 u154 u155 u156 u157 u158 u159 u160 u161 u162 u163 u164 u165 u166 u167 u168 u169 u170 u171 u172 u173 u174 u175 u176 u177 u178 u179 u180 u181 u182 u183 u184 u185 u186 u187 u188 u189 u190 u191 u192 u193 u194 u195 u196 u197 u198 u199 u200 u201 u202 u203 u204 u205 u206 u207 u208 u209 u210 u211 u212 u213 u214 u215 u216 u217 u218 u219 u220 u221 u222 u223 u224 u225 u226 u227 : Value) (hld : loadOf b = some ins) (hF : FieldsT fl) (hcp : cp < w.heap.size) (HRes : Hid (∀ W, Below w4.heap.size w4 W → W.heap[w.heap.size + 1 + 1]? = some (.cells #[.bool false, .int .i64 0, .int .i64 0] 44 (0, 0)) ∧ Below w.heap.size w W)) (HX : Hid (RJX b ins fl cp gf w4 wr A Ru St a q vs)) (hNN : byteAt b a = 18) :
    Code.wp Tryd.prog ((Tryd.f18.body.bind loopIn).getD .skip) (Exit.then (fun a' w'' => JI b ins fl cp gf w w4 A Ru St c1 c2 c3 c4 c5 c17 c18 c19 c20 c21 a' w'' ∧ JMu b a' w'' < b.length - a) (JQ (JR b w A Ru St))) ⟨#[.pointer (some ⟨cp, 0, none⟩), c1, c2, c3, c4, c5, .pointer (some ⟨w.heap.size + 1 + 1, 0, none⟩), .slice (some ⟨gf, 0, none⟩) 9 9, vs, .slice (some ⟨w4.heap.size, 0, none⟩) 256 256, .slice (some ⟨w4.heap.size + 1, 0, none⟩) 5 5, .int .i64 a, .int .i64 q, u13, u14, u15, u16, c17, c18, c19, c20, c21, u22, u23, u24, u25, u26, u27, u28, u29, u30, u31, u32, u33, u34, u35, u36, u37, u38, u39, u40, u41, u42, u43, u44, u45, u46, u47, u48, u49, u50, u51, u52, u53, u54, u55, u56, u57, u58, u59, u60, u61, u62, u63, u64, u65, u66, u67, u68, u69, u70, u71, u72, u73, u74, u75, u76, u77, u78, u79, u80, u81, u82, u83, u84, u85, u86, u87, u88, u89, u90, u91, u92, u93, u94, u95, u96, u97, u98, u99, u100, u101, u102, u103, u104, u105, u106, u107, u108, u109, u110, u111, u112, u113, u114, u115, u116, u117, u118, u119, u120, u121, u122, u123, u124, u125, u126, u127, u128, u129, u130, u131, u132, u133, u134, u135, u136, u137, u138, u139, u140, u141, u142, u143, u144, u145, u146, u147, u148, u149, u150, u151, u152, u153, u154, u155, u156, u157, u158, u159, u160, u161, u162, u163, u164, u165, u166, u167, u168, u169, u170, u171, u172, u173, u174, u175, u176, u177, u178, u179, u180, u181, u182, u183, u184, u185, u186, u187, u188, u189, u190, u191, u192, u193, u194, u195, u196, u197, u198, u199, u200, u201, u202, u203, u204, u205, u206, u207, u208, u209, u210, u211, u212, u213, u214, u215, u216, u217, u218, u219, u220, u221, u222, u223, u224, u225, u226, u227], []⟩ wr := by
  obtain ⟨l1, l2, l3, l4, l5, l6, C0, l7, l8⟩ := load_known hld
  have HFL : Hid _ := hF
  have HLD : Hid _ := hld
  clear l7 l8 hF hld
  obtain ⟨C, i, k, st, cl, f, hG, hpl, hS, hJ⟩ := HX.out
  have hxo := l3.each _ (getD_ins hS.hi)
  have hab := at_b hxo
  have hplt := (pl_lt l3 hS.hi).2
  have hstop := hS.stop
  have hstep := hS.step l3 rfl l6 HFL.out hG
  have hop := (num_ok hxo).op
  rw [hpl] at hab hplt
  have hcc : wr.cell? ⟨cp, 0, none⟩ = some (S b) := cell_of_row wr cp 0 _ _ _ hJ.code
  have hex := ex_drop b (a := a)
  have hq0 : (0 : Int) ≤ (a : Int) ∧ (a : Int) ≤ (b.length : Int) := by omega
  have hqs : q ≤ 4000 := by have := hS.le; have := hS.hi; omega
  have e0 : byteAt b a = (ins.getD i noIns).op := by rw [← hab.b0, byte_drop]; rfl
  rw [hNN] at e0
  generalize ins.getD i noIns = x at *
  generalize b.drop a = bb at *
  have E0 : Hid _ := e0
  clear e0 hNN
  have hb0 : 0 < (ByteArray.mk bb.toArray).size := hab.pos
  have hv0 : ((ByteArray.mk bb.toArray)[0]).toNat = x.op := (ba_at bb 0 hb0).trans hab.b0
  have hbp := hab.pos
  have hb4 : bb.length ≤ 4000 := by have := hab.len; omega
  have W2 := fun w => size_any x.op (by omega) w
  have HRs : Hid _ := HRes.out wr hJ.bel
  clear HX
  obtain ⟨sa, scap, hu8⟩ := hJ.sta.sl
  rw [List.length_reverse] at hu8
  subst hu8
  have hsl := hS.dep
  have hsz9 := size_le x.op
  have ha4 : a ≤ 4000 := by omega
  conv => arg 2; whnf
  go_upto_block 2 with (first | (go_at_call 25; refine (W2 _).mono ?_; rintro e0 w' ⟨rfl, hw'⟩; obtain rfl := hw'.symm))
  have e := E0.out.symm
  clear E0
  rw [e]
  have hsz : sizeOp 18 = 2 := rfl
  rw [hsz]
  obtain ⟨t2, t3, t4⟩ := hab.two (by rw [e]; rfl)
  have hb1 : 1 < (ByteArray.mk bb.toArray).size := by show 1 < bb.length; omega
  have hv1 : ((ByteArray.mk bb.toArray)[1]).toNat = byteAt bb 1 := ba_at bb 1 hb1
  have hnn : x.n.toNat = byteAt bb 1 := by rw [t3]; omega
  obtain ⟨hA, hRu, hSt⟩ := hstop (by omega)
  have HV : Hid (verdV A Ru St = .agg #[.bool false, .int .i64 (byteAt bb 1 : Nat), .int .i64 ((q : Int) + 1)]) := by
    show _ = _
    rw [hA, hSt, hRu, hnn, e]; rfl
  obtain ⟨hrb, hbw⟩ := HRs.out
  have rc := fun j => cell_of_row wr _ j _ _ _ hrb
  have r0 : wr.cell? ⟨w.heap.size + 1 + 1, 0, none⟩ = some (.bool false) := rc 0
  have r1 : wr.cell? ⟨w.heap.size + 1 + 1, 1, none⟩ = some (.int .i64 0) := rc 1
  have r2 : wr.cell? ⟨w.heap.size + 1 + 1, 2, none⟩ = some (.int .i64 0) := rc 2
  have rf : ∀ o, wr.frozen? ⟨w.heap.size + 1 + 1, o, none⟩ = false := fun o => by simp [World.frozen?, hrb]
  have g0 := rf 0
  have g1 := rf 1
  have g2 := rf 2
  have HBw : Hid _ := hbw
  clear hJ hS hstop hstep hG hab hxo t3 rc rf hrb hbw hA hRu hSt hnn
  generalize byteAt bb 1 = c1 at *
  go_wp2_with fail
  show JR b w A Ru St _ _
  unfold JR
  refine bodyPost_ret (v := .agg #[.bool false, .int .i64 (c1 : Nat), .int .i64 ((q : Int) + 1)]) (by simp [results, Tryd.results18, go_sem, cell_set_same, cell_set_off, some_set, r0, r1, r2]) rfl ?_
  exact ⟨by rw [HV.out], ((HBw.out.setCell (by simp; omega) _).setCell (by simp; omega) _).setCell (by simp; omega) _⟩
end Go.Proofs.YtfkdailfcmnjlaaDoor

namespace Go.Proofs.YtfkdailfcmnjlaaDoor
open Go Go.RowKit
set_option maxRecDepth 100000
attribute [local go_sem ↓] Go.wp_at_zero Go.wp_at_succ
set_option maxHeartbeats 8000000 in
set_option maxRecDepth 1000000 in
theorem rj_round {b : List UInt8} {ins : List Ins} {fl : List Int} {cp gf : Nat} {w w4 : World} {A : Bool} {Ru St : Nat} (c1 c2 c3 c4 c5 c17 c18 c19 c20 c21 : Value) (hld : loadOf b = some ins) (hF : FieldsT fl) (hcp : cp < w.heap.size) (HRes : Hid (∀ W, Below w4.heap.size w4 W → W.heap[w.heap.size + 1 + 1]? = some (.cells #[.bool false, .int .i64 0, .int .i64 0] 44 (0, 0)) ∧ Below w.heap.size w W)) (act : Act) (wr : World) (hI : JI b ins fl cp gf w w4 A Ru St c1 c2 c3 c4 c5 c17 c18 c19 c20 c21 act wr) :
    Code.wp Tryd.prog ((Tryd.f18.body.bind loopIn).getD .skip) (Exit.then (fun a' w'' => JI b ins fl cp gf w w4 A Ru St c1 c2 c3 c4 c5 c17 c18 c19 c20 c21 a' w'' ∧ JMu b a' w'' < JMu b act wr) (JQ (JR b w A Ru St))) act wr := by
  unfold JI at hI
  obtain ⟨u8, hI⟩ := hI
  obtain ⟨u11, hI⟩ := hI
  obtain ⟨u12, hI⟩ := hI
  obtain ⟨u13, hI⟩ := hI
  obtain ⟨u14, hI⟩ := hI
  obtain ⟨u15, hI⟩ := hI
  obtain ⟨u16, hI⟩ := hI
  obtain ⟨u22, hI⟩ := hI
  obtain ⟨u23, hI⟩ := hI
  obtain ⟨u24, hI⟩ := hI
  obtain ⟨u25, hI⟩ := hI
  obtain ⟨u26, hI⟩ := hI
  obtain ⟨u27, hI⟩ := hI
  obtain ⟨u28, hI⟩ := hI
  obtain ⟨u29, hI⟩ := hI
  obtain ⟨u30, hI⟩ := hI
  obtain ⟨u31, hI⟩ := hI
  obtain ⟨u32, hI⟩ := hI
  obtain ⟨u33, hI⟩ := hI
  obtain ⟨u34, hI⟩ := hI
  obtain ⟨u35, hI⟩ := hI
  obtain ⟨u36, hI⟩ := hI
  obtain ⟨u37, hI⟩ := hI
  obtain ⟨u38, hI⟩ := hI
  obtain ⟨u39, hI⟩ := hI
  obtain ⟨u40, hI⟩ := hI
  obtain ⟨u41, hI⟩ := hI
  obtain ⟨u42, hI⟩ := hI
  obtain ⟨u43, hI⟩ := hI
  obtain ⟨u44, hI⟩ := hI
  obtain ⟨u45, hI⟩ := hI
  obtain ⟨u46, hI⟩ := hI
  obtain ⟨u47, hI⟩ := hI
  obtain ⟨u48, hI⟩ := hI
  obtain ⟨u49, hI⟩ := hI
  obtain ⟨u50, hI⟩ := hI
  obtain ⟨u51, hI⟩ := hI
  obtain ⟨u52, hI⟩ := hI
  obtain ⟨u53, hI⟩ := hI
  obtain ⟨u54, hI⟩ := hI
  obtain ⟨u55, hI⟩ := hI
  obtain ⟨u56, hI⟩ := hI
  obtain ⟨u57, hI⟩ := hI
  obtain ⟨u58, hI⟩ := hI
  obtain ⟨u59, hI⟩ := hI
  obtain ⟨u60, hI⟩ := hI
  obtain ⟨u61, hI⟩ := hI
  obtain ⟨u62, hI⟩ := hI
  obtain ⟨u63, hI⟩ := hI
  obtain ⟨u64, hI⟩ := hI
  obtain ⟨u65, hI⟩ := hI
  obtain ⟨u66, hI⟩ := hI
  obtain ⟨u67, hI⟩ := hI
  obtain ⟨u68, hI⟩ := hI
  obtain ⟨u69, hI⟩ := hI
  obtain ⟨u70, hI⟩ := hI
  obtain ⟨u71, hI⟩ := hI
  obtain ⟨u72, hI⟩ := hI
  obtain ⟨u73, hI⟩ := hI
  obtain ⟨u74, hI⟩ := hI
  obtain ⟨u75, hI⟩ := hI
  obtain ⟨u76, hI⟩ := hI
  obtain ⟨u77, hI⟩ := hI
  obtain ⟨u78, hI⟩ := hI
  obtain ⟨u79, hI⟩ := hI
  obtain ⟨u80, hI⟩ := hI
  obtain ⟨u81, hI⟩ := hI
  obtain ⟨u82, hI⟩ := hI
  obtain ⟨u83, hI⟩ := hI
  obtain ⟨u84, hI⟩ := hI
  obtain ⟨u85, hI⟩ := hI
  obtain ⟨u86, hI⟩ := hI
  obtain ⟨u87, hI⟩ := hI
  obtain ⟨u88, hI⟩ := hI
  obtain ⟨u89, hI⟩ := hI
  obtain ⟨u90, hI⟩ := hI
  obtain ⟨u91, hI⟩ := hI
  obtain ⟨u92, hI⟩ := hI
  obtain ⟨u93, hI⟩ := hI
  obtain ⟨u94, hI⟩ := hI
  obtain ⟨u95, hI⟩ := hI
  obtain ⟨u96, hI⟩ := hI
  obtain ⟨u97, hI⟩ := hI
  obtain ⟨u98, hI⟩ := hI
  obtain ⟨u99, hI⟩ := hI
  obtain ⟨u100, hI⟩ := hI
  obtain ⟨u101, hI⟩ := hI
  obtain ⟨u102, hI⟩ := hI
  obtain ⟨u103, hI⟩ := hI
  obtain ⟨u104, hI⟩ := hI
  obtain ⟨u105, hI⟩ := hI
  obtain ⟨u106, hI⟩ := hI
  obtain ⟨u107, hI⟩ := hI
  obtain ⟨u108, hI⟩ := hI
  obtain ⟨u109, hI⟩ := hI
  obtain ⟨u110, hI⟩ := hI
  obtain ⟨u111, hI⟩ := hI
  obtain ⟨u112, hI⟩ := hI
  obtain ⟨u113, hI⟩ := hI
  obtain ⟨u114, hI⟩ := hI
  obtain ⟨u115, hI⟩ := hI
  obtain ⟨u116, hI⟩ := hI
  obtain ⟨u117, hI⟩ := hI
  obtain ⟨u118, hI⟩ := hI
  obtain ⟨u119, hI⟩ := hI
  obtain ⟨u120, hI⟩ := hI
  obtain ⟨u121, hI⟩ := hI
  obtain ⟨u122, hI⟩ := hI
  obtain ⟨u123, hI⟩ := hI
  obtain ⟨u124, hI⟩ := hI
  obtain ⟨u125, hI⟩ := hI
  obtain ⟨u126, hI⟩ := hI
  obtain ⟨u127, hI⟩ := hI
  obtain ⟨u128, hI⟩ := hI
  obtain ⟨u129, hI⟩ := hI
  obtain ⟨u130, hI⟩ := hI
  obtain ⟨u131, hI⟩ := hI
  obtain ⟨u132, hI⟩ := hI
  obtain ⟨u133, hI⟩ := hI
  obtain ⟨u134, hI⟩ := hI
  obtain ⟨u135, hI⟩ := hI
  obtain ⟨u136, hI⟩ := hI
  obtain ⟨u137, hI⟩ := hI
  obtain ⟨u138, hI⟩ := hI
  obtain ⟨u139, hI⟩ := hI
  obtain ⟨u140, hI⟩ := hI
  obtain ⟨u141, hI⟩ := hI
  obtain ⟨u142, hI⟩ := hI
  obtain ⟨u143, hI⟩ := hI
  obtain ⟨u144, hI⟩ := hI
  obtain ⟨u145, hI⟩ := hI
  obtain ⟨u146, hI⟩ := hI
  obtain ⟨u147, hI⟩ := hI
  obtain ⟨u148, hI⟩ := hI
  obtain ⟨u149, hI⟩ := hI
  obtain ⟨u150, hI⟩ := hI
  obtain ⟨u151, hI⟩ := hI
  obtain ⟨u152, hI⟩ := hI
  obtain ⟨u153, hI⟩ := hI
  obtain ⟨u154, hI⟩ := hI
  obtain ⟨u155, hI⟩ := hI
  obtain ⟨u156, hI⟩ := hI
  obtain ⟨u157, hI⟩ := hI
  obtain ⟨u158, hI⟩ := hI
  obtain ⟨u159, hI⟩ := hI
  obtain ⟨u160, hI⟩ := hI
  obtain ⟨u161, hI⟩ := hI
  obtain ⟨u162, hI⟩ := hI
  obtain ⟨u163, hI⟩ := hI
  obtain ⟨u164, hI⟩ := hI
  obtain ⟨u165, hI⟩ := hI
  obtain ⟨u166, hI⟩ := hI
  obtain ⟨u167, hI⟩ := hI
  obtain ⟨u168, hI⟩ := hI
  obtain ⟨u169, hI⟩ := hI
  obtain ⟨u170, hI⟩ := hI
  obtain ⟨u171, hI⟩ := hI
  obtain ⟨u172, hI⟩ := hI
  obtain ⟨u173, hI⟩ := hI
  obtain ⟨u174, hI⟩ := hI
  obtain ⟨u175, hI⟩ := hI
  obtain ⟨u176, hI⟩ := hI
  obtain ⟨u177, hI⟩ := hI
  obtain ⟨u178, hI⟩ := hI
  obtain ⟨u179, hI⟩ := hI
  obtain ⟨u180, hI⟩ := hI
  obtain ⟨u181, hI⟩ := hI
  obtain ⟨u182, hI⟩ := hI
  obtain ⟨u183, hI⟩ := hI
  obtain ⟨u184, hI⟩ := hI
  obtain ⟨u185, hI⟩ := hI
  obtain ⟨u186, hI⟩ := hI
  obtain ⟨u187, hI⟩ := hI
  obtain ⟨u188, hI⟩ := hI
  obtain ⟨u189, hI⟩ := hI
  obtain ⟨u190, hI⟩ := hI
  obtain ⟨u191, hI⟩ := hI
  obtain ⟨u192, hI⟩ := hI
  obtain ⟨u193, hI⟩ := hI
  obtain ⟨u194, hI⟩ := hI
  obtain ⟨u195, hI⟩ := hI
  obtain ⟨u196, hI⟩ := hI
  obtain ⟨u197, hI⟩ := hI
  obtain ⟨u198, hI⟩ := hI
  obtain ⟨u199, hI⟩ := hI
  obtain ⟨u200, hI⟩ := hI
  obtain ⟨u201, hI⟩ := hI
  obtain ⟨u202, hI⟩ := hI
  obtain ⟨u203, hI⟩ := hI
  obtain ⟨u204, hI⟩ := hI
  obtain ⟨u205, hI⟩ := hI
  obtain ⟨u206, hI⟩ := hI
  obtain ⟨u207, hI⟩ := hI
  obtain ⟨u208, hI⟩ := hI
  obtain ⟨u209, hI⟩ := hI
  obtain ⟨u210, hI⟩ := hI
  obtain ⟨u211, hI⟩ := hI
  obtain ⟨u212, hI⟩ := hI
  obtain ⟨u213, hI⟩ := hI
  obtain ⟨u214, hI⟩ := hI
  obtain ⟨u215, hI⟩ := hI
  obtain ⟨u216, hI⟩ := hI
  obtain ⟨u217, hI⟩ := hI
  obtain ⟨u218, hI⟩ := hI
  obtain ⟨u219, hI⟩ := hI
  obtain ⟨u220, hI⟩ := hI
  obtain ⟨u221, hI⟩ := hI
  obtain ⟨u222, hI⟩ := hI
  obtain ⟨u223, hI⟩ := hI
  obtain ⟨u224, hI⟩ := hI
  obtain ⟨u225, hI⟩ := hI
  obtain ⟨u226, hI⟩ := hI
  obtain ⟨u227, hI⟩ := hI
  obtain ⟨⟨a, q, h11, h12, HX⟩, hact⟩ := hI
  subst h11 h12 hact
  have hmu : JMu b ⟨#[.pointer (some ⟨cp, 0, none⟩), c1, c2, c3, c4, c5, .pointer (some ⟨w.heap.size + 1 + 1, 0, none⟩), .slice (some ⟨gf, 0, none⟩) 9 9, u8, .slice (some ⟨w4.heap.size, 0, none⟩) 256 256, .slice (some ⟨w4.heap.size + 1, 0, none⟩) 5 5, .int .i64 a, .int .i64 q, u13, u14, u15, u16, c17, c18, c19, c20, c21, u22, u23, u24, u25, u26, u27, u28, u29, u30, u31, u32, u33, u34, u35, u36, u37, u38, u39, u40, u41, u42, u43, u44, u45, u46, u47, u48, u49, u50, u51, u52, u53, u54, u55, u56, u57, u58, u59, u60, u61, u62, u63, u64, u65, u66, u67, u68, u69, u70, u71, u72, u73, u74, u75, u76, u77, u78, u79, u80, u81, u82, u83, u84, u85, u86, u87, u88, u89, u90, u91, u92, u93, u94, u95, u96, u97, u98, u99, u100, u101, u102, u103, u104, u105, u106, u107, u108, u109, u110, u111, u112, u113, u114, u115, u116, u117, u118, u119, u120, u121, u122, u123, u124, u125, u126, u127, u128, u129, u130, u131, u132, u133, u134, u135, u136, u137, u138, u139, u140, u141, u142, u143, u144, u145, u146, u147, u148, u149, u150, u151, u152, u153, u154, u155, u156, u157, u158, u159, u160, u161, u162, u163, u164, u165, u166, u167, u168, u169, u170, u171, u172, u173, u174, u175, u176, u177, u178, u179, u180, u181, u182, u183, u184, u185, u186, u187, u188, u189, u190, u191, u192, u193, u194, u195, u196, u197, u198, u199, u200, u201, u202, u203, u204, u205, u206, u207, u208, u209, u210, u211, u212, u213, u214, u215, u216, u217, u218, u219, u220, u221, u222, u223, u224, u225, u226, u227], []⟩ wr = b.length - a := by simp [JMu, intOf]
  rw [hmu]
  have hop : (∃ ks, ks ≤ 4 ∧ byteAt b a = ks + 7) ∨ byteAt b a = 1 ∨ byteAt b a = 2 ∨ byteAt b a = 3 ∨ byteAt b a = 4 ∨ byteAt b a = 5 ∨ byteAt b a = 6 ∨ byteAt b a = 12 ∨ byteAt b a = 13 ∨ byteAt b a = 14 ∨ byteAt b a = 15 ∨ byteAt b a = 16 ∨ byteAt b a = 17 ∨ byteAt b a = 18 := by
    obtain ⟨C, i, k, st, cl, f, hG, hpl, hS, hJ⟩ := HX.out
    obtain ⟨l1, l2, l3, l4, l5, l6, C0, l7, l8⟩ := load_known hld
    have hxo := l3.each _ (getD_ins hS.hi)
    have hop := (num_ok hxo).op
    have hb := ins_op hxo
    rw [hpl] at hb
    by_cases h7 : 7 ≤ byteAt b a ∧ byteAt b a ≤ 11
    · exact .inl ⟨byteAt b a - 7, by omega, by omega⟩
    · right; omega
  rcases hop with ⟨ks, hks, h⟩ | h | h | h | h | h | h | h | h | h | h | h | h | h
  · exact rj_7 c1 c2 c3 c4 c5 c17 c18 c19 c20 c21 u13 u14 u15 u16 u22 u23 u24 u25 u26 u27 u28 u29 u30 u31 u32 u33 u34 u35 u36 u37 u38 u39 u40 u41 u42 u43 u44 u45 u46 u47 u48 u49 u50 u51 u52 u53 u54 u55 u56 u57 u58 u59 u60 u61 u62 u63 u64 u65 u66 u67 u68 u69 u70 u71 u72 u73 u74 u75 u76 u77 u78 u79 u80 u81 u82 u83 u84 u85 u86 u87 u88 u89 u90 u91 u92 u93 u94 u95 u96 u97 u98 u99 u100 u101 u102 u103 u104 u105 u106 u107 u108 u109 u110 u111 u112 u113 u114 u115 u116 u117 u118 u119 u120 u121 u122 u123 u124 u125 u126 u127 u128 u129 u130 u131 u132 u133 u134 u135 u136 u137 u138 u139 u140 u141 u142 u143 u144 u145 u146 u147 u148 u149 u150 u151 u152 u153 u154 u155 u156 u157 u158 u159 u160 u161 u162 u163 u164 u165 u166 u167 u168 u169 u170 u171 u172 u173 u174 u175 u176 u177 u178 u179 u180 u181 u182 u183 u184 u185 u186 u187 u188 u189 u190 u191 u192 u193 u194 u195 u196 u197 u198 u199 u200 u201 u202 u203 u204 u205 u206 u207 u208 u209 u210 u211 u212 u213 u214 u215 u216 u217 u218 u219 u220 u221 u222 u223 u224 u225 u226 u227 hld hF hcp HRes HX h hks
  · exact rj_1 c1 c2 c3 c4 c5 c17 c18 c19 c20 c21 u13 u14 u15 u16 u22 u23 u24 u25 u26 u27 u28 u29 u30 u31 u32 u33 u34 u35 u36 u37 u38 u39 u40 u41 u42 u43 u44 u45 u46 u47 u48 u49 u50 u51 u52 u53 u54 u55 u56 u57 u58 u59 u60 u61 u62 u63 u64 u65 u66 u67 u68 u69 u70 u71 u72 u73 u74 u75 u76 u77 u78 u79 u80 u81 u82 u83 u84 u85 u86 u87 u88 u89 u90 u91 u92 u93 u94 u95 u96 u97 u98 u99 u100 u101 u102 u103 u104 u105 u106 u107 u108 u109 u110 u111 u112 u113 u114 u115 u116 u117 u118 u119 u120 u121 u122 u123 u124 u125 u126 u127 u128 u129 u130 u131 u132 u133 u134 u135 u136 u137 u138 u139 u140 u141 u142 u143 u144 u145 u146 u147 u148 u149 u150 u151 u152 u153 u154 u155 u156 u157 u158 u159 u160 u161 u162 u163 u164 u165 u166 u167 u168 u169 u170 u171 u172 u173 u174 u175 u176 u177 u178 u179 u180 u181 u182 u183 u184 u185 u186 u187 u188 u189 u190 u191 u192 u193 u194 u195 u196 u197 u198 u199 u200 u201 u202 u203 u204 u205 u206 u207 u208 u209 u210 u211 u212 u213 u214 u215 u216 u217 u218 u219 u220 u221 u222 u223 u224 u225 u226 u227 hld hF hcp HRes HX h
  · exact rj_2 c1 c2 c3 c4 c5 c17 c18 c19 c20 c21 u13 u14 u15 u16 u22 u23 u24 u25 u26 u27 u28 u29 u30 u31 u32 u33 u34 u35 u36 u37 u38 u39 u40 u41 u42 u43 u44 u45 u46 u47 u48 u49 u50 u51 u52 u53 u54 u55 u56 u57 u58 u59 u60 u61 u62 u63 u64 u65 u66 u67 u68 u69 u70 u71 u72 u73 u74 u75 u76 u77 u78 u79 u80 u81 u82 u83 u84 u85 u86 u87 u88 u89 u90 u91 u92 u93 u94 u95 u96 u97 u98 u99 u100 u101 u102 u103 u104 u105 u106 u107 u108 u109 u110 u111 u112 u113 u114 u115 u116 u117 u118 u119 u120 u121 u122 u123 u124 u125 u126 u127 u128 u129 u130 u131 u132 u133 u134 u135 u136 u137 u138 u139 u140 u141 u142 u143 u144 u145 u146 u147 u148 u149 u150 u151 u152 u153 u154 u155 u156 u157 u158 u159 u160 u161 u162 u163 u164 u165 u166 u167 u168 u169 u170 u171 u172 u173 u174 u175 u176 u177 u178 u179 u180 u181 u182 u183 u184 u185 u186 u187 u188 u189 u190 u191 u192 u193 u194 u195 u196 u197 u198 u199 u200 u201 u202 u203 u204 u205 u206 u207 u208 u209 u210 u211 u212 u213 u214 u215 u216 u217 u218 u219 u220 u221 u222 u223 u224 u225 u226 u227 hld hF hcp HRes HX h
  · exact rj_3 c1 c2 c3 c4 c5 c17 c18 c19 c20 c21 u13 u14 u15 u16 u22 u23 u24 u25 u26 u27 u28 u29 u30 u31 u32 u33 u34 u35 u36 u37 u38 u39 u40 u41 u42 u43 u44 u45 u46 u47 u48 u49 u50 u51 u52 u53 u54 u55 u56 u57 u58 u59 u60 u61 u62 u63 u64 u65 u66 u67 u68 u69 u70 u71 u72 u73 u74 u75 u76 u77 u78 u79 u80 u81 u82 u83 u84 u85 u86 u87 u88 u89 u90 u91 u92 u93 u94 u95 u96 u97 u98 u99 u100 u101 u102 u103 u104 u105 u106 u107 u108 u109 u110 u111 u112 u113 u114 u115 u116 u117 u118 u119 u120 u121 u122 u123 u124 u125 u126 u127 u128 u129 u130 u131 u132 u133 u134 u135 u136 u137 u138 u139 u140 u141 u142 u143 u144 u145 u146 u147 u148 u149 u150 u151 u152 u153 u154 u155 u156 u157 u158 u159 u160 u161 u162 u163 u164 u165 u166 u167 u168 u169 u170 u171 u172 u173 u174 u175 u176 u177 u178 u179 u180 u181 u182 u183 u184 u185 u186 u187 u188 u189 u190 u191 u192 u193 u194 u195 u196 u197 u198 u199 u200 u201 u202 u203 u204 u205 u206 u207 u208 u209 u210 u211 u212 u213 u214 u215 u216 u217 u218 u219 u220 u221 u222 u223 u224 u225 u226 u227 hld hF hcp HRes HX h
  · exact rj_4 c1 c2 c3 c4 c5 c17 c18 c19 c20 c21 u13 u14 u15 u16 u22 u23 u24 u25 u26 u27 u28 u29 u30 u31 u32 u33 u34 u35 u36 u37 u38 u39 u40 u41 u42 u43 u44 u45 u46 u47 u48 u49 u50 u51 u52 u53 u54 u55 u56 u57 u58 u59 u60 u61 u62 u63 u64 u65 u66 u67 u68 u69 u70 u71 u72 u73 u74 u75 u76 u77 u78 u79 u80 u81 u82 u83 u84 u85 u86 u87 u88 u89 u90 u91 u92 u93 u94 u95 u96 u97 u98 u99 u100 u101 u102 u103 u104 u105 u106 u107 u108 u109 u110 u111 u112 u113 u114 u115 u116 u117 u118 u119 u120 u121 u122 u123 u124 u125 u126 u127 u128 u129 u130 u131 u132 u133 u134 u135 u136 u137 u138 u139 u140 u141 u142 u143 u144 u145 u146 u147 u148 u149 u150 u151 u152 u153 u154 u155 u156 u157 u158 u159 u160 u161 u162 u163 u164 u165 u166 u167 u168 u169 u170 u171 u172 u173 u174 u175 u176 u177 u178 u179 u180 u181 u182 u183 u184 u185 u186 u187 u188 u189 u190 u191 u192 u193 u194 u195 u196 u197 u198 u199 u200 u201 u202 u203 u204 u205 u206 u207 u208 u209 u210 u211 u212 u213 u214 u215 u216 u217 u218 u219 u220 u221 u222 u223 u224 u225 u226 u227 hld hF hcp HRes HX h
  · exact rj_5 c1 c2 c3 c4 c5 c17 c18 c19 c20 c21 u13 u14 u15 u16 u22 u23 u24 u25 u26 u27 u28 u29 u30 u31 u32 u33 u34 u35 u36 u37 u38 u39 u40 u41 u42 u43 u44 u45 u46 u47 u48 u49 u50 u51 u52 u53 u54 u55 u56 u57 u58 u59 u60 u61 u62 u63 u64 u65 u66 u67 u68 u69 u70 u71 u72 u73 u74 u75 u76 u77 u78 u79 u80 u81 u82 u83 u84 u85 u86 u87 u88 u89 u90 u91 u92 u93 u94 u95 u96 u97 u98 u99 u100 u101 u102 u103 u104 u105 u106 u107 u108 u109 u110 u111 u112 u113 u114 u115 u116 u117 u118 u119 u120 u121 u122 u123 u124 u125 u126 u127 u128 u129 u130 u131 u132 u133 u134 u135 u136 u137 u138 u139 u140 u141 u142 u143 u144 u145 u146 u147 u148 u149 u150 u151 u152 u153 u154 u155 u156 u157 u158 u159 u160 u161 u162 u163 u164 u165 u166 u167 u168 u169 u170 u171 u172 u173 u174 u175 u176 u177 u178 u179 u180 u181 u182 u183 u184 u185 u186 u187 u188 u189 u190 u191 u192 u193 u194 u195 u196 u197 u198 u199 u200 u201 u202 u203 u204 u205 u206 u207 u208 u209 u210 u211 u212 u213 u214 u215 u216 u217 u218 u219 u220 u221 u222 u223 u224 u225 u226 u227 hld hF hcp HRes HX h
  · exact rj_6 c1 c2 c3 c4 c5 c17 c18 c19 c20 c21 u13 u14 u15 u16 u22 u23 u24 u25 u26 u27 u28 u29 u30 u31 u32 u33 u34 u35 u36 u37 u38 u39 u40 u41 u42 u43 u44 u45 u46 u47 u48 u49 u50 u51 u52 u53 u54 u55 u56 u57 u58 u59 u60 u61 u62 u63 u64 u65 u66 u67 u68 u69 u70 u71 u72 u73 u74 u75 u76 u77 u78 u79 u80 u81 u82 u83 u84 u85 u86 u87 u88 u89 u90 u91 u92 u93 u94 u95 u96 u97 u98 u99 u100 u101 u102 u103 u104 u105 u106 u107 u108 u109 u110 u111 u112 u113 u114 u115 u116 u117 u118 u119 u120 u121 u122 u123 u124 u125 u126 u127 u128 u129 u130 u131 u132 u133 u134 u135 u136 u137 u138 u139 u140 u141 u142 u143 u144 u145 u146 u147 u148 u149 u150 u151 u152 u153 u154 u155 u156 u157 u158 u159 u160 u161 u162 u163 u164 u165 u166 u167 u168 u169 u170 u171 u172 u173 u174 u175 u176 u177 u178 u179 u180 u181 u182 u183 u184 u185 u186 u187 u188 u189 u190 u191 u192 u193 u194 u195 u196 u197 u198 u199 u200 u201 u202 u203 u204 u205 u206 u207 u208 u209 u210 u211 u212 u213 u214 u215 u216 u217 u218 u219 u220 u221 u222 u223 u224 u225 u226 u227 hld hF hcp HRes HX h
  · exact rj_12 c1 c2 c3 c4 c5 c17 c18 c19 c20 c21 u13 u14 u15 u16 u22 u23 u24 u25 u26 u27 u28 u29 u30 u31 u32 u33 u34 u35 u36 u37 u38 u39 u40 u41 u42 u43 u44 u45 u46 u47 u48 u49 u50 u51 u52 u53 u54 u55 u56 u57 u58 u59 u60 u61 u62 u63 u64 u65 u66 u67 u68 u69 u70 u71 u72 u73 u74 u75 u76 u77 u78 u79 u80 u81 u82 u83 u84 u85 u86 u87 u88 u89 u90 u91 u92 u93 u94 u95 u96 u97 u98 u99 u100 u101 u102 u103 u104 u105 u106 u107 u108 u109 u110 u111 u112 u113 u114 u115 u116 u117 u118 u119 u120 u121 u122 u123 u124 u125 u126 u127 u128 u129 u130 u131 u132 u133 u134 u135 u136 u137 u138 u139 u140 u141 u142 u143 u144 u145 u146 u147 u148 u149 u150 u151 u152 u153 u154 u155 u156 u157 u158 u159 u160 u161 u162 u163 u164 u165 u166 u167 u168 u169 u170 u171 u172 u173 u174 u175 u176 u177 u178 u179 u180 u181 u182 u183 u184 u185 u186 u187 u188 u189 u190 u191 u192 u193 u194 u195 u196 u197 u198 u199 u200 u201 u202 u203 u204 u205 u206 u207 u208 u209 u210 u211 u212 u213 u214 u215 u216 u217 u218 u219 u220 u221 u222 u223 u224 u225 u226 u227 hld hF hcp HRes HX h
  · exact rj_13 c1 c2 c3 c4 c5 c17 c18 c19 c20 c21 u13 u14 u15 u16 u22 u23 u24 u25 u26 u27 u28 u29 u30 u31 u32 u33 u34 u35 u36 u37 u38 u39 u40 u41 u42 u43 u44 u45 u46 u47 u48 u49 u50 u51 u52 u53 u54 u55 u56 u57 u58 u59 u60 u61 u62 u63 u64 u65 u66 u67 u68 u69 u70 u71 u72 u73 u74 u75 u76 u77 u78 u79 u80 u81 u82 u83 u84 u85 u86 u87 u88 u89 u90 u91 u92 u93 u94 u95 u96 u97 u98 u99 u100 u101 u102 u103 u104 u105 u106 u107 u108 u109 u110 u111 u112 u113 u114 u115 u116 u117 u118 u119 u120 u121 u122 u123 u124 u125 u126 u127 u128 u129 u130 u131 u132 u133 u134 u135 u136 u137 u138 u139 u140 u141 u142 u143 u144 u145 u146 u147 u148 u149 u150 u151 u152 u153 u154 u155 u156 u157 u158 u159 u160 u161 u162 u163 u164 u165 u166 u167 u168 u169 u170 u171 u172 u173 u174 u175 u176 u177 u178 u179 u180 u181 u182 u183 u184 u185 u186 u187 u188 u189 u190 u191 u192 u193 u194 u195 u196 u197 u198 u199 u200 u201 u202 u203 u204 u205 u206 u207 u208 u209 u210 u211 u212 u213 u214 u215 u216 u217 u218 u219 u220 u221 u222 u223 u224 u225 u226 u227 hld hF hcp HRes HX h
  · exact rj_14 c1 c2 c3 c4 c5 c17 c18 c19 c20 c21 u13 u14 u15 u16 u22 u23 u24 u25 u26 u27 u28 u29 u30 u31 u32 u33 u34 u35 u36 u37 u38 u39 u40 u41 u42 u43 u44 u45 u46 u47 u48 u49 u50 u51 u52 u53 u54 u55 u56 u57 u58 u59 u60 u61 u62 u63 u64 u65 u66 u67 u68 u69 u70 u71 u72 u73 u74 u75 u76 u77 u78 u79 u80 u81 u82 u83 u84 u85 u86 u87 u88 u89 u90 u91 u92 u93 u94 u95 u96 u97 u98 u99 u100 u101 u102 u103 u104 u105 u106 u107 u108 u109 u110 u111 u112 u113 u114 u115 u116 u117 u118 u119 u120 u121 u122 u123 u124 u125 u126 u127 u128 u129 u130 u131 u132 u133 u134 u135 u136 u137 u138 u139 u140 u141 u142 u143 u144 u145 u146 u147 u148 u149 u150 u151 u152 u153 u154 u155 u156 u157 u158 u159 u160 u161 u162 u163 u164 u165 u166 u167 u168 u169 u170 u171 u172 u173 u174 u175 u176 u177 u178 u179 u180 u181 u182 u183 u184 u185 u186 u187 u188 u189 u190 u191 u192 u193 u194 u195 u196 u197 u198 u199 u200 u201 u202 u203 u204 u205 u206 u207 u208 u209 u210 u211 u212 u213 u214 u215 u216 u217 u218 u219 u220 u221 u222 u223 u224 u225 u226 u227 hld hF hcp HRes HX h
  · exact rj_15 c1 c2 c3 c4 c5 c17 c18 c19 c20 c21 u13 u14 u15 u16 u22 u23 u24 u25 u26 u27 u28 u29 u30 u31 u32 u33 u34 u35 u36 u37 u38 u39 u40 u41 u42 u43 u44 u45 u46 u47 u48 u49 u50 u51 u52 u53 u54 u55 u56 u57 u58 u59 u60 u61 u62 u63 u64 u65 u66 u67 u68 u69 u70 u71 u72 u73 u74 u75 u76 u77 u78 u79 u80 u81 u82 u83 u84 u85 u86 u87 u88 u89 u90 u91 u92 u93 u94 u95 u96 u97 u98 u99 u100 u101 u102 u103 u104 u105 u106 u107 u108 u109 u110 u111 u112 u113 u114 u115 u116 u117 u118 u119 u120 u121 u122 u123 u124 u125 u126 u127 u128 u129 u130 u131 u132 u133 u134 u135 u136 u137 u138 u139 u140 u141 u142 u143 u144 u145 u146 u147 u148 u149 u150 u151 u152 u153 u154 u155 u156 u157 u158 u159 u160 u161 u162 u163 u164 u165 u166 u167 u168 u169 u170 u171 u172 u173 u174 u175 u176 u177 u178 u179 u180 u181 u182 u183 u184 u185 u186 u187 u188 u189 u190 u191 u192 u193 u194 u195 u196 u197 u198 u199 u200 u201 u202 u203 u204 u205 u206 u207 u208 u209 u210 u211 u212 u213 u214 u215 u216 u217 u218 u219 u220 u221 u222 u223 u224 u225 u226 u227 hld hF hcp HRes HX h
  · exact rj_16 c1 c2 c3 c4 c5 c17 c18 c19 c20 c21 u13 u14 u15 u16 u22 u23 u24 u25 u26 u27 u28 u29 u30 u31 u32 u33 u34 u35 u36 u37 u38 u39 u40 u41 u42 u43 u44 u45 u46 u47 u48 u49 u50 u51 u52 u53 u54 u55 u56 u57 u58 u59 u60 u61 u62 u63 u64 u65 u66 u67 u68 u69 u70 u71 u72 u73 u74 u75 u76 u77 u78 u79 u80 u81 u82 u83 u84 u85 u86 u87 u88 u89 u90 u91 u92 u93 u94 u95 u96 u97 u98 u99 u100 u101 u102 u103 u104 u105 u106 u107 u108 u109 u110 u111 u112 u113 u114 u115 u116 u117 u118 u119 u120 u121 u122 u123 u124 u125 u126 u127 u128 u129 u130 u131 u132 u133 u134 u135 u136 u137 u138 u139 u140 u141 u142 u143 u144 u145 u146 u147 u148 u149 u150 u151 u152 u153 u154 u155 u156 u157 u158 u159 u160 u161 u162 u163 u164 u165 u166 u167 u168 u169 u170 u171 u172 u173 u174 u175 u176 u177 u178 u179 u180 u181 u182 u183 u184 u185 u186 u187 u188 u189 u190 u191 u192 u193 u194 u195 u196 u197 u198 u199 u200 u201 u202 u203 u204 u205 u206 u207 u208 u209 u210 u211 u212 u213 u214 u215 u216 u217 u218 u219 u220 u221 u222 u223 u224 u225 u226 u227 hld hF hcp HRes HX h
  · exact rj_17 c1 c2 c3 c4 c5 c17 c18 c19 c20 c21 u13 u14 u15 u16 u22 u23 u24 u25 u26 u27 u28 u29 u30 u31 u32 u33 u34 u35 u36 u37 u38 u39 u40 u41 u42 u43 u44 u45 u46 u47 u48 u49 u50 u51 u52 u53 u54 u55 u56 u57 u58 u59 u60 u61 u62 u63 u64 u65 u66 u67 u68 u69 u70 u71 u72 u73 u74 u75 u76 u77 u78 u79 u80 u81 u82 u83 u84 u85 u86 u87 u88 u89 u90 u91 u92 u93 u94 u95 u96 u97 u98 u99 u100 u101 u102 u103 u104 u105 u106 u107 u108 u109 u110 u111 u112 u113 u114 u115 u116 u117 u118 u119 u120 u121 u122 u123 u124 u125 u126 u127 u128 u129 u130 u131 u132 u133 u134 u135 u136 u137 u138 u139 u140 u141 u142 u143 u144 u145 u146 u147 u148 u149 u150 u151 u152 u153 u154 u155 u156 u157 u158 u159 u160 u161 u162 u163 u164 u165 u166 u167 u168 u169 u170 u171 u172 u173 u174 u175 u176 u177 u178 u179 u180 u181 u182 u183 u184 u185 u186 u187 u188 u189 u190 u191 u192 u193 u194 u195 u196 u197 u198 u199 u200 u201 u202 u203 u204 u205 u206 u207 u208 u209 u210 u211 u212 u213 u214 u215 u216 u217 u218 u219 u220 u221 u222 u223 u224 u225 u226 u227 hld hF hcp HRes HX h
  · exact rj_18 c1 c2 c3 c4 c5 c17 c18 c19 c20 c21 u13 u14 u15 u16 u22 u23 u24 u25 u26 u27 u28 u29 u30 u31 u32 u33 u34 u35 u36 u37 u38 u39 u40 u41 u42 u43 u44 u45 u46 u47 u48 u49 u50 u51 u52 u53 u54 u55 u56 u57 u58 u59 u60 u61 u62 u63 u64 u65 u66 u67 u68 u69 u70 u71 u72 u73 u74 u75 u76 u77 u78 u79 u80 u81 u82 u83 u84 u85 u86 u87 u88 u89 u90 u91 u92 u93 u94 u95 u96 u97 u98 u99 u100 u101 u102 u103 u104 u105 u106 u107 u108 u109 u110 u111 u112 u113 u114 u115 u116 u117 u118 u119 u120 u121 u122 u123 u124 u125 u126 u127 u128 u129 u130 u131 u132 u133 u134 u135 u136 u137 u138 u139 u140 u141 u142 u143 u144 u145 u146 u147 u148 u149 u150 u151 u152 u153 u154 u155 u156 u157 u158 u159 u160 u161 u162 u163 u164 u165 u166 u167 u168 u169 u170 u171 u172 u173 u174 u175 u176 u177 u178 u179 u180 u181 u182 u183 u184 u185 u186 u187 u188 u189 u190 u191 u192 u193 u194 u195 u196 u197 u198 u199 u200 u201 u202 u203 u204 u205 u206 u207 u208 u209 u210 u211 u212 u213 u214 u215 u216 u217 u218 u219 u220 u221 u222 u223 u224 u225 u226 u227 hld hF hcp HRes HX h
set_option maxHeartbeats 8000000 in
set_option maxRecDepth 1000000 in
theorem rj_loop {b : List UInt8} {ins : List Ins} {fl : List Int} {cp gf : Nat} {w w4 wr : World} {A : Bool} {Ru St : Nat} {vs : Value} (c1 c2 c3 c4 c5 c17 c18 c19 c20 c21 : Value) (u13 u14 u15 u16 u22 u23 u24 u25 u26 u27 u28 u29 u30 u31 u32 u33 u34 u35 u36 u37 u38 u39 u40 u41 u42 u43 u44 u45 u46 u47 u48 u49 u50 u51 u52 u53 u54 u55 u56 u57 u58 u59 u60 u61 u62 u63 u64 u65 u66 u67 u68 u69 u70 u71 u72 u73 u74 u75 u76 u77 u78 u79 u80 u81 u82 u83 u84 u85 u86 u87 u88 u89 u90 u91 u92 u93 u94 u95 u96 u97 u98 u99 u100 u101 u102 u103 u104 u105 u106 u107 u108 u109 u110 u111 u112 u113 u114 u115 u116 u117 u118 u119 u120 u121 u122 u123 u124 u125 u126 u127 u128 u129 u130 u131 u132 u133 u134 u135 u136 u137 u138 u139 u140 u141 u142 u143 u144 u145 u146 u147 u148 u149 u150 u151 u152 u153 u154 u155 u156 u157 u158 u159 u160 u161 u162 u163 u164 u165 u166 u167 u168 u169 u170 u171 u172 u173 u174 u175 u176 u177 u178 u179 u180 u181 u182 u183 u184 u185 u186 u187 u188 u189 u190 u191 u192 u193 u194 u195 u196 u197 u198 u199 u200 u201 u202 u203 u204 u205 u206 u207 u208 u209 u210 u211 u212 u213 u214 u215 u216 u217 u218 u219 u220 u221 u222 u223 u224 u225 u226 u227 : Value) (hld : loadOf b = some ins) (hF : FieldsT fl) (hcp : cp < w.heap.size) (HRes : Hid (∀ W, Below w4.heap.size w4 W → W.heap[w.heap.size + 1 + 1]? = some (.cells #[.bool false, .int .i64 0, .int .i64 0] 44 (0, 0)) ∧ Below w.heap.size w W)) (HX : Hid (RJX b ins fl cp gf w4 wr A Ru St 3 0 vs)) :
    Code.wp Tryd.prog (Code.loop ((Tryd.f18.body.bind loopIn).getD .skip)) (JQ (JR b w A Ru St)) ⟨#[.pointer (some ⟨cp, 0, none⟩), c1, c2, c3, c4, c5, .pointer (some ⟨w.heap.size + 1 + 1, 0, none⟩), .slice (some ⟨gf, 0, none⟩) 9 9, vs, .slice (some ⟨w4.heap.size, 0, none⟩) 256 256, .slice (some ⟨w4.heap.size + 1, 0, none⟩) 5 5, .int .i64 3, .int .i64 0, u13, u14, u15, u16, c17, c18, c19, c20, c21, u22, u23, u24, u25, u26, u27, u28, u29, u30, u31, u32, u33, u34, u35, u36, u37, u38, u39, u40, u41, u42, u43, u44, u45, u46, u47, u48, u49, u50, u51, u52, u53, u54, u55, u56, u57, u58, u59, u60, u61, u62, u63, u64, u65, u66, u67, u68, u69, u70, u71, u72, u73, u74, u75, u76, u77, u78, u79, u80, u81, u82, u83, u84, u85, u86, u87, u88, u89, u90, u91, u92, u93, u94, u95, u96, u97, u98, u99, u100, u101, u102, u103, u104, u105, u106, u107, u108, u109, u110, u111, u112, u113, u114, u115, u116, u117, u118, u119, u120, u121, u122, u123, u124, u125, u126, u127, u128, u129, u130, u131, u132, u133, u134, u135, u136, u137, u138, u139, u140, u141, u142, u143, u144, u145, u146, u147, u148, u149, u150, u151, u152, u153, u154, u155, u156, u157, u158, u159, u160, u161, u162, u163, u164, u165, u166, u167, u168, u169, u170, u171, u172, u173, u174, u175, u176, u177, u178, u179, u180, u181, u182, u183, u184, u185, u186, u187, u188, u189, u190, u191, u192, u193, u194, u195, u196, u197, u198, u199, u200, u201, u202, u203, u204, u205, u206, u207, u208, u209, u210, u211, u212, u213, u214, u215, u216, u217, u218, u219, u220, u221, u222, u223, u224, u225, u226, u227], []⟩ wr := by
  refine wp_loop (JI b ins fl cp gf w w4 A Ru St c1 c2 c3 c4 c5 c17 c18 c19 c20 c21) (JMu b) ?_ (fun a w'' hI => rj_round c1 c2 c3 c4 c5 c17 c18 c19 c20 c21 hld hF hcp HRes a w'' hI)
  unfold JI
  exact ⟨_, _, _, _, _, _, _, _, _, _, _, _, _, _, _, _, _, _, _, _, _, _, _, _, _, _, _, _, _, _, _, _, _, _, _, _, _, _, _, _, _, _, _, _, _, _, _, _, _, _, _, _, _, _, _, _, _, _, _, _, _, _, _, _, _, _, _, _, _, _, _, _, _, _, _, _, _, _, _, _, _, _, _, _, _, _, _, _, _, _, _, _, _, _, _, _, _, _, _, _, _, _, _, _, _, _, _, _, _, _, _, _, _, _, _, _, _, _, _, _, _, _, _, _, _, _, _, _, _, _, _, _, _, _, _, _, _, _, _, _, _, _, _, _, _, _, _, _, _, _, _, _, _, _, _, _, _, _, _, _, _, _, _, _, _, _, _, _, _, _, _, _, _, _, _, _, _, _, _, _, _, _, _, _, _, _, _, _, _, _, _, _, _, _, _, _, _, _, _, _, _, _, _, _, _, _, _, _, _, _, _, _, _, ⟨3, 0, rfl, rfl, HX⟩, rfl⟩
end Go.Proofs.YtfkdailfcmnjlaaDoor

namespace Go.Proofs.YtfkdailfcmnjlaaDoor
open Go Go.RowKit
set_option maxRecDepth 100000
attribute [local go_sem ↓] Go.wp_at_zero Go.wp_at_succ
set_option maxHeartbeats 8000000 in
set_option maxRecDepth 1000000 in
theorem rjudge_any {b : List UInt8} {ins : List Ins} {cp : Nat} {w : World} {A : Bool} {Ru St : Nat} {lv mv : Value} (e : Ev) (s : Stt) (hld : loadOf b = some ins) (hcp : w.heap[cp]? = some (.cells #[S b] 65 (0, 0))) (h1 : PairsAt lv s.levels w) (h2 : PairsAt mv s.members w) (hwa : In64 e.wants) (hF : FieldsT (fieldsL e s)) (hj : judgeOf b ins (fieldsL e s) = some (A, Ru, St)) :
    Calls Tryd.prog 18 #[.pointer (some ⟨cp, 0, none⟩), evV e, sttV lv mv s] w fun en w' => en = .returned (verdV A Ru St) ∧ Below w.heap.size w w' := by
  have hmk : ∀ w : World, (Instr.makeSlice 87 (.int .i64 256) (.int .i64 256)).run Tryd.prog w = .ok (.slice (some ⟨w.heap.size, 0, none⟩) 256 256) (w.alloc (.cells (madeCells #[.int .i64 0] 256) 2)) := run_make_row' (P := Tryd.prog) 87 2 (.int .i64 0) 8 Tryd.underlying87 info_i64 rfl .i64 .i64 256 (by omega) (by omega)
  have W1 := fun W (hb : Below w.heap.size w W) => fields_ref e s W (h1.below hb) (h2.below hb) hwa
  have HFL : Hid (FieldsT (fieldsL e s) ∧ judgeOf b ins (fieldsL e s) = some (A, Ru, St)) := ⟨hF, hj⟩
  generalize hfl : fieldsL e s = fl at *
  clear hfl hF hj
  obtain ⟨sn, tg, wa, nd, wh⟩ := e
  obtain ⟨ls, df, ms, op⟩ := s
  obtain ⟨_, la, lc, rfl, _⟩ := h1
  obtain ⟨_, ma, mc, rfl, _⟩ := h2
  unfold evV sttV at *
  simp only [] at *
  obtain ⟨w3, hw3⟩ : ∃ w3, ((w.alloc (.cells #[S sn, S tg, .int .i64 wa, .int .i64 nd, .int .i64 wh] 23)).alloc (.cells #[.slice la ls.length lc, .int .i64 df, .slice ma ms.length mc, .bool op] 27)).alloc (.cells #[.bool false, .int .i64 0, .int .i64 0] 44) = w3 := ⟨_, rfl⟩
  have hb3 : Below w.heap.size w w3 := by rw [← hw3]; exact (((Below.refl _ w).alloc (Nat.le_refl _) _).alloc (by simp) _).alloc (by simp; omega) _
  have hk1 : w3.heap[w.heap.size]? = some (.cells #[S sn, S tg, .int .i64 wa, .int .i64 nd, .int .i64 wh] 23 (0, 0)) := by rw [← hw3]; exact (Below.heap_alloc _ _ _ (by simp; omega)).trans ((Below.heap_alloc _ _ _ (by simp)).trans (heap_alloc_new w _))
  have hk2 : w3.heap[w.heap.size + 1]? = some (.cells #[.slice la ls.length lc, .int .i64 df, .slice ma ms.length mc, .bool op] 27 (0, 0)) := by
    rw [← hw3]
    refine (Below.heap_alloc _ _ _ (by simp)).trans ?_
    have := heap_alloc_new (w.alloc (.cells #[S sn, S tg, .int .i64 wa, .int .i64 nd, .int .i64 wh] 23)) (.cells #[.slice la ls.length lc, .int .i64 df, .slice ma ms.length mc, .bool op] 27)
    rw [World.size_alloc] at this; exact this
  have hk3 : w3.heap[w.heap.size + 1 + 1]? = some (.cells #[.bool false, .int .i64 0, .int .i64 0] 44 (0, 0)) := by
    rw [← hw3]
    have := heap_alloc_new ((w.alloc (.cells #[S sn, S tg, .int .i64 wa, .int .i64 nd, .int .i64 wh] 23)).alloc (.cells #[.slice la ls.length lc, .int .i64 df, .slice ma ms.length mc, .bool op] 27)) (.cells #[.bool false, .int .i64 0, .int .i64 0] 44)
    rw [World.size_alloc, World.size_alloc] at this; exact this
  have HSZ : Hid (w3.heap.size = w.heap.size + 1 + 1 + 1) := by show w3.heap.size = _; rw [← hw3, World.size_alloc, World.size_alloc, World.size_alloc]
  have V1 := W1 w3 hb3
  have HCP : Hid _ := hcp
  have HW : Hid _ := hw3
  have HK3 : Hid _ := hk3
  have HB3 : Hid _ := hb3
  have HLD : Hid _ := hld
  clear W1 hcp hw3 hk1 hk2 hk3 hb3 hld
  go_enter Tryd.func18, Tryd.ntmps18
  go_wp2_with (
    go_at_call 28
    rw [HW.out]
    refine V1.mono ?_
    rintro e w4 ⟨⟨gf, rfl, hgf⟩, hb4⟩
    have HGF : Hid _ := hgf
    have HB4 : Hid _ := hb4
    clear hgf hb4 V1)
  have HW0 : Hid (RJX b ins fl cp gf w4 ((w4.alloc (.cells (madeCells #[.int .i64 0] 256) 2)).alloc (.cells #[S [43], S [45], S [61], S [60], S [60, 61]] 9)) A Ru St 3 0 (.slice none 0 0)) := rjx_first HLD.out HFL.out.1 HFL.out.2 ((HB4.out.block _ (by have := lt_of_get HCP.out; have := HSZ.out; omega)).trans ((HB3.out.block _ (lt_of_get HCP.out)).trans HCP.out)) HGF.out
  have hcp : cp < w.heap.size := lt_of_get HCP.out
  have HRes : Hid (∀ W, Below w4.heap.size w4 W → W.heap[w.heap.size + 1 + 1]? = some (.cells #[.bool false, .int .i64 0, .int .i64 0] 44 (0, 0)) ∧ Below w.heap.size w W) := fun W hb => by
    have hs := HSZ.out
    have h4 := HB4.out.size
    refine ⟨(hb.block _ (by omega)).trans ((HB4.out.block _ (by omega)).trans HK3.out), ?_⟩
    have q := HB3.out.trans (HB4.out.mono HB3.out.size)
    exact q.trans (hb.mono q.size)
  have hld := HLD.out
  have hF := HFL.out.1
  clear HGF HCP HK3 HB3 HB4 HSZ HW hmk
  refine wp_mono (rj_loop _ _ _ _ _ _ _ _ _ _ _ _ _ _ _ _ _ _ _ _ _ _ _ _ _ _ _ _ _ _ _ _ _ _ _ _ _ _ _ _ _ _ _ _ _ _ _ _ _ _ _ _ _ _ _ _ _ _ _ _ _ _ _ _ _ _ _ _ _ _ _ _ _ _ _ _ _ _ _ _ _ _ _ _ _ _ _ _ _ _ _ _ _ _ _ _ _ _ _ _ _ _ _ _ _ _ _ _ _ _ _ _ _ _ _ _ _ _ _ _ _ _ _ _ _ _ _ _ _ _ _ _ _ _ _ _ _ _ _ _ _ _ _ _ _ _ _ _ _ _ _ _ _ _ _ _ _ _ _ _ _ _ _ _ _ _ _ _ _ _ _ _ _ _ _ _ _ _ _ _ _ _ _ _ _ _ _ _ _ _ _ _ _ _ _ _ _ _ _ _ _ _ _ _ _ _ _ _ _ _ _ _ _ _ _ _ _ _ _ _ hld hF hcp HRes HW0) ?_
  intro e act w' h
  cases e with
  | ret => exact h
  | _ => exact h.elim
end Go.Proofs.YtfkdailfcmnjlaaDoor
