/-
  The document's Judge. A round of the document's Judge: one kind of instruction. A round of the document's Judge: one kind of instruction. A round of the document's Judge: one kind of instruction. A round of the document's Judge: one kind of instruction. A round of the document's Judge: one kind of instruction. A round of the document's Judge: one kind of instruction.
-/
import Derived.Test.YtfkdailfcmnjlaaGreatDoorCompiles01
import Derived.Test.YtfkdailfcmnjlaaGreatDoorCompiles02
import Derived.Test.YtfkdailfcmnjlaaGreatDoorCompiles04
import Derived.Test.YtfkdailfcmnjlaaGreatDoorCompiles05
import Derived.Test.YtfkdailfcmnjlaaGreatDoorCompiles06
import Derived.Test.YtfkdailfcmnjlaaGreatDoorCompiles07
import Derived.Test.YtfkdailfcmnjlaaGreatDoorCompiles08
import Derived.Test.YtfkdailfcmnjlaaGreatDoorCompiles09
import Derived.Test.YtfkdailfcmnjlaaGreatDoorCompiles10
import Derived.Test.YtfkdailfcmnjlaaGreatDoorCompiles11
import Derived.Test.YtfkdailfcmnjlaaGreatDoorCompiles12
import Derived.Test.YtfkdailfcmnjlaaGreatDoorCompiles13
import Derived.Test.YtfkdailfcmnjlaaGreatDoorCompiles14
import Derived.Test.YtfkdailfcmnjlaaGreatDoorCompiles15
import Derived.Test.YtfkdailfcmnjlaaGreatDoorCompiles16
import Derived.Test.YtfkdailfcmnjlaaGreatDoorCompiles17
import Derived.Test.YtfkdailfcmnjlaaGreatDoorCompiles18
import Derived.Test.YtfkdailfcmnjlaaGreatDoorCompiles19
import Derived.Test.YtfkdailfcmnjlaaGreatDoorCompiles20
import Derived.Test.YtfkdailfcmnjlaaGreatDoorCompiles21
import Derived.Test.YtfkdailfcmnjlaaGreatDoorCompiles22
import Derived.Test.YtfkdailfcmnjlaaGreatDoorCompiles23
import Derived.Test.YtfkdailfcmnjlaaGreatDoorCompiles24
import Derived.Test.YtfkdailfcmnjlaaGreatDoorCompiles27
import Derived.Test.YtfkdailfcmnjlaaGreatDoorCompiles28
import Derived.Test.YtfkdailfcmnjlaaGreatDoorCompiles29
import Derived.Test.YtfkdailfcmnjlaaGreatDoorCompiles30
import Derived.Test.YtfkdailfcmnjlaaGreatDoorCompiles31
import Derived.Test.YtfkdailfcmnjlaaGreatDoorCompiles32
import Derived.Test.YtfkdailfcmnjlaaGreatDoorCompiles34
import Derived.Test.YtfkdailfcmnjlaaGreatDoorCompiles35
import Derived.Test.YtfkdailfcmnjlaaGreatDoorCompiles36
import Derived.Test.YtfkdailfcmnjlaaGreatDoorCompiles37
import Derived.Test.YtfkdailfcmnjlaaGreatDoorCompiles38
import Derived.Test.YtfkdailfcmnjlaaGreatDoorCompiles39
import Derived.Test.YtfkdailfcmnjlaaGreatDoorCompiles40
import Derived.Test.YtfkdailfcmnjlaaGreatDoorCompiles41
import Derived.Test.YtfkdailfcmnjlaaGreatDoorCompiles43
import Derived.Test.YtfkdailfcmnjlaaGreatDoorCompiles44
import Derived.Test.YtfkdailfcmnjlaaGreatDoorCompiles45
import Derived.Test.YtfkdailfcmnjlaaGreatDoorCompiles53
import Derived.Test.YtfkdailfcmnjlaaGreatDoorCompiles54
import Derived.Test.YtfkdailfcmnjlaaGreatDoorCompiles55
import Derived.Test.YtfkdailfcmnjlaaGreatDoorLays
import Derived.Test.YtfkdailfcmnjlaaGreatDoorLays2
import Derived.Deep.CutBlock
import Derived.WalkKit
import Derived.Deep.QuietTactic
import Derived.BigQuiet
import Derived.WalkSpells
import GoSem.Op.String
import Derived.Deep.AppendLies
import Derived.Deep.RegionHeld3
import Derived.Deep.DrawnRows
import Derived.Deep.RegionHeldLaw
import Derived.Deep.RegionLaw
import Derived.Lib.ParseIntBCases
import Derived.Deep.OwnRows
import Derived.Lib.LaidTab
import Derived.Lib.AppendIntMem
import Derived.Shelf.Strings.Builder1
import Derived.Laws.CopyOwn
import Derived.Deep.DeepCutAuto
import Derived.WalkSmall
import Derived.Lib.AppendZerosOnto
import Derived.Lib.SliceRun
import Derived.Shelf.Abstract
set_option linter.unusedVariables false
set_option linter.unusedSimpArgs false
namespace Go.Proofs.YtfkdailfcmnjlaaGreatDoor
open Go Go.RowKit
set_option maxRecDepth 100000
attribute [local go_sem ↓] Go.wp_at_zero Go.wp_at_succ

theorem info_i64j : (Tryz.prog.info? 2).map (fun i => (i.zero, i.size, i.bytes)) = some (some (.int .i64 0), 1, 8) := by kernel_rfl
/-- Where the machine stands, in memory. -/
def RJX (b : List UInt8) (ins : List Ins) (fl : List Int) (cp gf : Nat) (w wr : World) (A : Bool) (Ru St a q : Nat) (vs : Value) : Prop :=
  ∃ (C : Nat → Option Kn) (i : Nat) (k : Kn) (st cl : List Int) (f : Nat), Good ins (byteAt b 1) 0 C ∧ (ins.getD i noIns).pl = a ∧ RSj b ins fl (byteAt b 2) C A Ru St i k st cl f q ∧ RJ w wr cp gf (w.heap.size + 1) w.heap.size b fl vs st cl
theorem rjx_first {b : List UInt8} {ins : List Ins} {fl : List Int} {cp gf : Nat} {w : World} {A : Bool} {Ru St : Nat} (hld : loadOf b = some ins) (hF : FieldsT fl) (hj : judgeOf b ins fl = some (A, Ru, St)) (hcp : w.heap[cp]? = some (.cells #[S b] 130 (0, 0))) (hgf : ∀ i, i < 9 → w.cell? ⟨gf, i, none⟩ = some (.int .i64 (fl.getD i 0))) :
    RJX b ins fl cp gf w ((w.alloc (.cells (madeCells #[.int .i64 0] 256) 2)).alloc (.cells #[S [43], S [45], S [61], S [60], S [60, 61]] 9)) A Ru St 3 0 (.slice none 0 0) := by
  obtain ⟨l1, l2, l3, l4, l5, l6, C, l7, l8⟩ := load_known hld
  have hp0 : (ins.getD 0 noIns).pl = 3 := by
    have := l3.order
    cases ins with
    | nil => simp at l4
    | cons x r => exact this.1
  have hc := byte_lt b 2
  have hb : Below w.heap.size w ((w.alloc (.cells (madeCells #[.int .i64 0] 256) 2)).alloc (.cells #[S [43], S [45], S [61], S [60], S [60, 61]] 9)) := ((Below.refl _ _).alloc (Nat.le_refl _) _).alloc (by simp) _
  have hlg := World.block_lt_of_cell? w _ (hgf 0 (by decide))
  have hlg : gf < w.heap.size := hlg
  refine ⟨C, 0, _, [], List.replicate (byteAt b 2) 0, ins.length, l8, hp0, ⟨l4, l7, ⟨trivial, fun c hc' => ?_, by simp⟩, by simp, Nat.le_refl _, hj⟩, ⟨(hb.block _ (lt_of_get hcp)).trans hcp, IR.nil _ _, fun g hg => by simp [Value.ownBlock] at hg, ?_, fun j hj' => by rw [hb.cell (p := ⟨gf, j, none⟩) hlg]; exact hgf j hj', ?_, hb, ⟨lt_of_get hcp, trivial, by omega, Nat.le_refl _, by simp; omega, by omega⟩⟩⟩
  · exfalso
    refine hc' ?_
    rw [List.getD_eq_getElem?_getD, List.getElem?_replicate]; split <;> rfl
  · rw [← cellO_made (n := byteAt b 2) (by omega)]
    exact (Below.heap_alloc _ _ _ (by simp)).trans (heap_alloc_new w _)
  · have := heap_alloc_new (w.alloc (.cells (madeCells #[.int .i64 0] 256) 2)) (.cells #[S [43], S [45], S [61], S [60], S [60, 61]] 9)
    rw [World.size_alloc] at this
    exact this
theorem RJ.push {w wr w5 : World} {cp gf gs gc gg cap : Nat} {b : List UInt8} {fl : List Int} {vs : Value} {st cl : List Int} (h : RJ w wr cp gf gs gc b fl vs st cl) (v : Int) {o : Obj} (hown : w5.ownsRow 0 2 1 (.slice (some ⟨gg, 0, none⟩) (st.length + 1) cap) (st.length + 1) (st.reverse.map (Value.int .i64) ++ [.int .i64 v])) (hgrow : (wr.alloc o).grownBy w5 vs.ownBlock) (hat : vs.ownBlock = some gg ∨ gg = (wr.alloc o).heap.size) : RJ w w5 cp gf gs gc b fl (.slice (some ⟨gg, 0, none⟩) (st.length + 1) cap) (v :: st) cl := by
  refine h.stack (F := fun q => vs.ownBlock = some q) (((Only.refl (fun q => vs.ownBlock = some q) wr).alloc o).grown hgrow (fun k hk => .inl hk)) (fun _ hg => hg) ?_ (fun g hg => ?_)
  · unfold IR
    simpa using hown
  · simp [Value.ownBlock] at hg
    subst hg
    rcases hat with h | h
    · exact .inl h
    · right; rw [h, World.size_alloc]; omega
def sgnL (k : Nat) : List UInt8 := ([[43], [45], [61], [60], [60, 61]] : List (List UInt8)).getD k []
theorem RJX.below {b : List UInt8} {ins : List Ins} {fl : List Int} {cp gf : Nat} {w wr w2 : World} {A : Bool} {Ru St a q : Nat} {vs : Value} (h : RJX b ins fl cp gf w wr A Ru St a q vs) (hb : Below wr.heap.size wr w2) : RJX b ins fl cp gf w w2 A Ru St a q vs := by
  obtain ⟨C, i, k, st, cl, f, h1, h2, h3, h4⟩ := h
  exact ⟨C, i, k, st, cl, f, h1, h2, h3, h4.below hb⟩
theorem byte_drop (b : List UInt8) (a j : Nat) : byteAt (b.drop a) j = byteAt b (a + j) := by
  unfold byteAt; rw [List.getD_eq_getElem?_getD, List.getD_eq_getElem?_getD, List.getElem?_drop]
theorem be_drop (b : List UInt8) (a j : Nat) : ∀ n, beVal (b.drop a) j n = beVal b (a + j) n
  | 0 => rfl
  | n + 1 => by rw [beVal, beVal, be_drop b a j n, byte_drop, Nat.add_assoc]
theorem ex_drop (b : List UInt8) {a : Nat} : (BA b).extract a b.length = BA (b.drop a) := by
  rw [cut_ex]; unfold cut; rw [List.take_of_length_le (by simp)]
/-- What is read of an instruction from its first byte on. -/
structure AtB (b bb : List UInt8) (x : Ins) : Prop where
  len : bb.length = b.length - x.pl
  pos : 0 < bb.length
  b0 : byteAt bb 0 = x.op
  two : sizeOp x.op = 2 → 1 < bb.length ∧ x.n = (byteAt bb 1 : Int) ∧ byteAt bb 1 < 256
  three : sizeOp x.op = 3 → 2 < bb.length ∧ x.n = (byteAt bb 1 * 256 + byteAt bb 2 : Int) ∧ byteAt bb 1 < 256 ∧ byteAt bb 2 < 256
  nine : x.op = 1 → 9 ≤ bb.length ∧ x.n = signed64 (beVal (bb.drop 1) 0 8)
theorem at_b {b : List UInt8} {x : Ins} (h : InsOK b x) : AtB b (b.drop x.pl) x := by
  have hf := h.fits
  have hs : 0 < sizeOp x.op := Nat.pos_of_ne_zero h.size
  have hl : (b.drop x.pl).length = b.length - x.pl := by simp
  refine ⟨hl, by omega, by rw [byte_drop]; exact ins_op h, fun g => ⟨by omega, by rw [byte_drop]; exact ins_two h g, byte_lt _ _⟩, fun g => ⟨by omega, by rw [byte_drop, byte_drop]; exact ins_three h g, byte_lt _ _, byte_lt _ _⟩, fun g => ⟨?_, ?_⟩⟩
  · have : sizeOp x.op = 9 := by rw [g]; rfl
    omega
  · have hn : x.n = numAt b x.op x.pl := by have := h.here; rw [this]; rfl
    rw [hn, be_drop, be_drop]
    unfold numAt
    rw [if_pos g]

/-- The first loop of a function's code. -/
def loopIn : Code → Option Code
  | .loop c => some c
  | .seq a b => match loopIn a with
    | some c => some c
    | none => loopIn b
  | .block _ c => loopIn c
  | .scope c => loopIn c
  | .cond _ a b => match loopIn a with
    | some c => some c
    | none => loopIn b
  | _ => none
set_option maxRecDepth 1000000 in
/-- What holds at the head of the machine's loop. -/
def JI (b : List UInt8) (ins : List Ins) (fl : List Int) (cp gf : Nat) (w w4 : World) (A : Bool) (Ru St : Nat) (c1 c2 c3 c4 c5 c17 c18 c19 c20 c21 : Value) (act : Act) (w' : World) : Prop :=
  ∃ u8 u11 u12 u13 u14 u15 u16 u22 u23 u24 u25 u26 u27 u28 u29 u30 u31 u32 u33 u34 u35 u36 u37 u38 u39 u40 u41 u42 u43 u44 u45 u46 u47 u48 u49 u50 u51 u52 u53 u54 u55 u56 u57 u58 u59 u60 u61 u62 u63 u64 u65 u66 u67 u68 u69 u70 u71 u72 u73 u74 u75 u76 u77 u78 u79 u80 u81 u82 u83 u84 u85 u86 u87 u88 u89 u90 u91 u92 u93 u94 u95 u96 u97 u98 u99 u100 u101 u102 u103 u104 u105 u106 u107 u108 u109 u110 u111 u112 u113 u114 u115 u116 u117 u118 u119 u120 u121 u122 u123 u124 u125 u126 u127 u128 u129 u130 u131 u132 u133 u134 u135 u136 u137 u138 u139 u140 u141 u142 u143 u144 u145 u146 u147 u148 u149 u150 u151 u152 u153 u154 u155 u156 u157 u158 u159 u160 u161 u162 u163 u164 u165 u166 u167 u168 u169 u170 u171 u172 u173 u174 u175 u176 u177 u178 u179 u180 u181 u182 u183 u184 u185 u186 u187 u188 u189 u190 u191 u192 u193 u194 u195 u196 u197 u198 u199 u200 u201 u202 u203 u204 u205 u206 u207 u208 u209 u210 u211 u212 u213 u214 u215 u216 u217 u218 u219 u220 u221 u222 u223 u224 u225 u226 u227 : Value, (∃ a q : Nat, u11 = .int .i64 a ∧ u12 = .int .i64 q ∧ Hid (RJX b ins fl cp gf w4 w' A Ru St a q u8)) ∧ act = ⟨#[.pointer (some ⟨cp, 0, none⟩), c1, c2, c3, c4, c5, .pointer (some ⟨w.heap.size + 1 + 1, 0, none⟩), .slice (some ⟨gf, 0, none⟩) 9 9, u8, .slice (some ⟨w4.heap.size, 0, none⟩) 256 256, .slice (some ⟨w4.heap.size + 1, 0, none⟩) 5 5, u11, u12, u13, u14, u15, u16, c17, c18, c19, c20, c21, u22, u23, u24, u25, u26, u27, u28, u29, u30, u31, u32, u33, u34, u35, u36, u37, u38, u39, u40, u41, u42, u43, u44, u45, u46, u47, u48, u49, u50, u51, u52, u53, u54, u55, u56, u57, u58, u59, u60, u61, u62, u63, u64, u65, u66, u67, u68, u69, u70, u71, u72, u73, u74, u75, u76, u77, u78, u79, u80, u81, u82, u83, u84, u85, u86, u87, u88, u89, u90, u91, u92, u93, u94, u95, u96, u97, u98, u99, u100, u101, u102, u103, u104, u105, u106, u107, u108, u109, u110, u111, u112, u113, u114, u115, u116, u117, u118, u119, u120, u121, u122, u123, u124, u125, u126, u127, u128, u129, u130, u131, u132, u133, u134, u135, u136, u137, u138, u139, u140, u141, u142, u143, u144, u145, u146, u147, u148, u149, u150, u151, u152, u153, u154, u155, u156, u157, u158, u159, u160, u161, u162, u163, u164, u165, u166, u167, u168, u169, u170, u171, u172, u173, u174, u175, u176, u177, u178, u179, u180, u181, u182, u183, u184, u185, u186, u187, u188, u189, u190, u191, u192, u193, u194, u195, u196, u197, u198, u199, u200, u201, u202, u203, u204, u205, u206, u207, u208, u209, u210, u211, u212, u213, u214, u215, u216, u217, u218, u219, u220, u221, u222, u223, u224, u225, u226, u227], []⟩
def JMu (b : List UInt8) (act : Act) (_ : World) : Nat := b.length - (intOf (act.tmps.getD 11 undef)).toNat
/-- What returning wants. -/
def JRj (b : List UInt8) (w : World) (A : Bool) (Ru St : Nat) (act : Act) (w' : World) : Prop := bodyPost Tryz.prog Tryz.f26 (fun en w' => en = .returned (verdV A Ru St) ∧ Below w.heap.size w w') .ret act w'
/-- A post that wants a return alone. -/
def JQ (R : Act → World → Prop) : Exit → Act → World → Prop
  | .ret, a, w => R a w
  | _, _, _ => False
end Go.Proofs.YtfkdailfcmnjlaaGreatDoor

namespace Go.Proofs.YtfkdailfcmnjlaaGreatDoor
open Go Go.RowKit
set_option maxRecDepth 100000
attribute [local go_sem ↓] Go.wp_at_zero Go.wp_at_succ
set_option maxHeartbeats 8000000 in
set_option maxRecDepth 1000000 in
theorem rj_1 {b : List UInt8} {ins : List Ins} {fl : List Int} {cp gf : Nat} {w w4 wr : World} {A : Bool} {Ru St a q : Nat} {vs : Value} (c1 c2 c3 c4 c5 c17 c18 c19 c20 c21 : Value) (u13 u14 u15 u16 u22 u23 u24 u25 u26 u27 u28 u29 u30 u31 u32 u33 u34 u35 u36 u37 u38 u39 u40 u41 u42 u43 u44 u45 u46 u47 u48 u49 u50 u51 u52 u53 u54 u55 u56 u57 u58 u59 u60 u61 u62 u63 u64 u65 u66 u67 u68 u69 u70 u71 u72 u73 u74 u75 u76 u77 u78 u79 u80 u81 u82 u83 u84 u85 u86 u87 u88 u89 u90 u91 u92 u93 u94 u95 u96 u97 u98 u99 u100 u101 u102 u103 u104 u105 u106 u107 u108 u109 u110 u111 u112 u113 u114 u115 u116 u117 u118 u119 u120 u121 u122 u123 u124 u125 u126 u127 u128 u129 u130 u131 u132 u133 u134 u135 u136 u137 u138 u139 u140 u141 u142 u143 u144 u145 u146 u147 u148 u149 u150 u151 u152 u153 u154 u155 u156 u157 u158 u159 u160 u161 u162 u163 u164 u165 u166 u167 u168 u169 u170 u171 u172 u173 u174 u175 u176 u177 u178 u179 u180 u181 u182 u183 u184 u185 u186 u187 u188 u189 u190 u191 u192 u193 u194 u195 u196 u197 u198 u199 u200 u201 u202 u203 u204 u205 u206 u207 u208 u209 u210 u211 u212 u213 u214 u215 u216 u217 u218 u219 u220 u221 u222 u223 u224 u225 u226 u227 : Value) (hld : loadOf b = some ins) (hF : FieldsT fl) (hcp : cp < w.heap.size) (HRes : Hid (∀ W, Below w4.heap.size w4 W → W.heap[w.heap.size + 1 + 1]? = some (.cells #[.bool false, .int .i64 0, .int .i64 0] 40 (0, 0)) ∧ Below w.heap.size w W)) (HX : Hid (RJX b ins fl cp gf w4 wr A Ru St a q vs)) (hNN : byteAt b a = 1) :
    Code.wp Tryz.prog ((Tryz.f26.body.bind loopIn).getD .skip) (Exit.then (fun a' w'' => JI b ins fl cp gf w w4 A Ru St c1 c2 c3 c4 c5 c17 c18 c19 c20 c21 a' w'' ∧ JMu b a' w'' < b.length - a) (JQ (JRj b w A Ru St))) ⟨#[.pointer (some ⟨cp, 0, none⟩), c1, c2, c3, c4, c5, .pointer (some ⟨w.heap.size + 1 + 1, 0, none⟩), .slice (some ⟨gf, 0, none⟩) 9 9, vs, .slice (some ⟨w4.heap.size, 0, none⟩) 256 256, .slice (some ⟨w4.heap.size + 1, 0, none⟩) 5 5, .int .i64 a, .int .i64 q, u13, u14, u15, u16, c17, c18, c19, c20, c21, u22, u23, u24, u25, u26, u27, u28, u29, u30, u31, u32, u33, u34, u35, u36, u37, u38, u39, u40, u41, u42, u43, u44, u45, u46, u47, u48, u49, u50, u51, u52, u53, u54, u55, u56, u57, u58, u59, u60, u61, u62, u63, u64, u65, u66, u67, u68, u69, u70, u71, u72, u73, u74, u75, u76, u77, u78, u79, u80, u81, u82, u83, u84, u85, u86, u87, u88, u89, u90, u91, u92, u93, u94, u95, u96, u97, u98, u99, u100, u101, u102, u103, u104, u105, u106, u107, u108, u109, u110, u111, u112, u113, u114, u115, u116, u117, u118, u119, u120, u121, u122, u123, u124, u125, u126, u127, u128, u129, u130, u131, u132, u133, u134, u135, u136, u137, u138, u139, u140, u141, u142, u143, u144, u145, u146, u147, u148, u149, u150, u151, u152, u153, u154, u155, u156, u157, u158, u159, u160, u161, u162, u163, u164, u165, u166, u167, u168, u169, u170, u171, u172, u173, u174, u175, u176, u177, u178, u179, u180, u181, u182, u183, u184, u185, u186, u187, u188, u189, u190, u191, u192, u193, u194, u195, u196, u197, u198, u199, u200, u201, u202, u203, u204, u205, u206, u207, u208, u209, u210, u211, u212, u213, u214, u215, u216, u217, u218, u219, u220, u221, u222, u223, u224, u225, u226, u227], []⟩ wr := by
  obtain ⟨l1, l2, l3, l4, l5, l6, C0, l7, l8⟩ := load_known hld
  have HFL : Hid _ := hF
  have HLD : Hid _ := hld
  clear l7 l8 hF hld
  obtain ⟨C, i, k, st, cl, f, hG, hpl, hS, hJ⟩ := HX.out
  have hxo := l3.each _ (getD_ins hS.hi)
  have hab := at_b hxo
  have hplt := (pl_lt l3 hS.hi).2
  have hstop := hS.stop
  have hstep := hS.step l3 rfl l6 HFL.out hG
  have hop := (num_ok hxo).op
  rw [hpl] at hab hplt
  have hcc : wr.cell? ⟨cp, 0, none⟩ = some (S b) := cell_of_row wr cp 0 _ _ _ hJ.code
  have hex := ex_drop b (a := a)
  have hq0 : (0 : Int) ≤ (a : Int) ∧ (a : Int) ≤ (b.length : Int) := by omega
  have hqs : q ≤ 4000 := by have := hS.le; have := hS.hi; omega
  have e0 : byteAt b a = (ins.getD i noIns).op := by rw [← hab.b0, byte_drop]; rfl
  rw [hNN] at e0
  generalize ins.getD i noIns = x at *
  generalize b.drop a = bb at *
  have E0 : Hid _ := e0
  clear e0 hNN
  have hb0 : 0 < (ByteArray.mk bb.toArray).size := hab.pos
  have hv0 : ((ByteArray.mk bb.toArray)[0]).toNat = x.op := (ba_at bb 0 hb0).trans hab.b0
  have hbp := hab.pos
  have hb4 : bb.length ≤ 4000 := by have := hab.len; omega
  have W2 := fun w => size_any x.op (by omega) w
  have HRs : Hid _ := HRes.out wr hJ.bel
  clear HX
  obtain ⟨sa, scap, hu8⟩ := hJ.sta.sl
  rw [List.length_reverse] at hu8
  subst hu8
  have hsl := hS.dep
  have hsz9 := size_le x.op
  have ha4 : a ≤ 4000 := by omega
  conv => arg 2; whnf
  go_upto_block 2 with (first | (go_at_call 49; refine (W2 _).mono ?_; rintro e0 w' ⟨rfl, hw'⟩; obtain rfl := hw'.symm))
  have e := E0.out.symm
  clear E0
  rw [e]
  have hsz : sizeOp 1 = 9 := rfl
  rw [hsz]
  obtain ⟨t2, t3⟩ := hab.nine e
  have hl1 : (bb.drop 1).length = bb.length - 1 := by simp
  have W3 := fun w => rnumber_any (bb.drop 1) (by omega) (by omega) w
  have hex1 := ex_drop bb (a := 1)
  generalize bb.drop 1 = b8 at *
  have hq1 : (1 : Int) ≤ (bb.length : Int) := by omega
  rw [← t3] at W3
  obtain ⟨k', st', cl', jj, t, kq, f', g1, g2, g3, g4, g5⟩ := hstep (by omega)
  have g2' : some (x.n :: st, cl, false) = some (st', cl', jj) := by rw [← g2]; unfold stepK; rw [e]; rfl
  simp only [Option.some.injEq, Prod.mk.injEq] at g2'
  obtain ⟨rfl, rfl, rfl⟩ := g2'
  rw [if_neg (by decide), e, hsz] at g3
  obtain ⟨i0, hi, hz⟩ := Option.map_eq_some_iff.1 info_i64j
  simp only [Prod.mk.injEq] at hz
  obtain ⟨hz0, hz1, hz2⟩ := hz
  have HR : Hid (wr.ownsRow 0 2 1 (.slice sa st.length scap) st.length (st.reverse.map (Value.int .i64))) := by
    have h := hJ.sta
    unfold IR at h
    show wr.ownsRow 0 2 1 (.slice sa st.length scap) st.length (st.reverse.map (Value.int .i64))
    simpa using h
  have HA : Hid (a + 9 < b.length) := by
    have := (pl_lt l3 g5.hi).2
    rw [g3, hpl] at this
    exact this
  have HN : Hid (∀ w5 vs, RJ w4 w5 cp gf (w4.heap.size + 1) w4.heap.size b fl vs (x.n :: st) cl → RJX b ins fl cp gf w4 w5 A Ru St (a + 9) (q + 1) vs) := fun w5 vs h => ⟨C, t, kq, _, cl, f', hG, by rw [g3, hpl], g5, h⟩
  have HP : Hid _ := @RJ.push w4 wr
  have HJ : Hid _ := hJ
  clear hJ hS hstop hstep g1 g2 g3 g4 g5 hG hab hxo t3
  generalize x.n = vv at *
  go_wp2_with (first | (go_at_call 50; refine (W3 _).mono ?_; rintro e0 w' ⟨rfl, hw'⟩; obtain rfl := hw'.symm) | (at_builtin; go_must (refine wpList_append_lies _ (by rfl) _ _ 116 (by rfl) 0 2 i0 (.int .i64 0) 1 8 Tryz.underlying116 hi hz0 hz1 hz2 (by rfl) (by decide) _ _ _ (by rfl) (HR.out.alloc _) ⟨wr.heap.size, 0, none⟩ 1 1 [.int .i64 vv] (by rfl) (by rfl) (World.news_of_block (heap_alloc_new wr _)) (fun x hx => by simp at hx; rcases hx with rfl; rfl) (by decide) (by unfold maxLen; omega) (by omega) (by simp) _ rfl ?_); intro gg cap' w5 hown3 hgrow hat hlt3))
  refine ⟨?_, by have := HA.out; simp [JMu, intOf]; omega⟩
  unfold JI
  refine ⟨_, _, _, _, _, _, _, _, _, _, _, _, _, _, _, _, _, _, _, _, _, _, _, _, _, _, _, _, _, _, _, _, _, _, _, _, _, _, _, _, _, _, _, _, _, _, _, _, _, _, _, _, _, _, _, _, _, _, _, _, _, _, _, _, _, _, _, _, _, _, _, _, _, _, _, _, _, _, _, _, _, _, _, _, _, _, _, _, _, _, _, _, _, _, _, _, _, _, _, _, _, _, _, _, _, _, _, _, _, _, _, _, _, _, _, _, _, _, _, _, _, _, _, _, _, _, _, _, _, _, _, _, _, _, _, _, _, _, _, _, _, _, _, _, _, _, _, _, _, _, _, _, _, _, _, _, _, _, _, _, _, _, _, _, _, _, _, _, _, _, _, _, _, _, _, _, _, _, _, _, _, _, _, _, _, _, _, _, _, _, _, _, _, _, _, _, _, _, _, _, _, _, _, _, _, _, _, _, _, _, _, _, _, ?_, rfl⟩
  exact ⟨a + 9, q + 1, by go_num, by go_num, HN.out _ _ (HJ.out.push _ hown3 hgrow hat)⟩
end Go.Proofs.YtfkdailfcmnjlaaGreatDoor

namespace Go.Proofs.YtfkdailfcmnjlaaGreatDoor
open Go Go.RowKit
set_option maxRecDepth 100000
attribute [local go_sem ↓] Go.wp_at_zero Go.wp_at_succ
set_option maxHeartbeats 8000000 in
set_option maxRecDepth 1000000 in
theorem rj_2 {b : List UInt8} {ins : List Ins} {fl : List Int} {cp gf : Nat} {w w4 wr : World} {A : Bool} {Ru St a q : Nat} {vs : Value} (c1 c2 c3 c4 c5 c17 c18 c19 c20 c21 : Value) (u13 u14 u15 u16 u22 u23 u24 u25 u26 u27 u28 u29 u30 u31 u32 u33 u34 u35 u36 u37 u38 u39 u40 u41 u42 u43 u44 u45 u46 u47 u48 u49 u50 u51 u52 u53 u54 u55 u56 u57 u58 u59 u60 u61 u62 u63 u64 u65 u66 u67 u68 u69 u70 u71 u72 u73 u74 u75 u76 u77 u78 u79 u80 u81 u82 u83 u84 u85 u86 u87 u88 u89 u90 u91 u92 u93 u94 u95 u96 u97 u98 u99 u100 u101 u102 u103 u104 u105 u106 u107 u108 u109 u110 u111 u112 u113 u114 u115 u116 u117 u118 u119 u120 u121 u122 u123 u124 u125 u126 u127 u128 u129 u130 u131 u132 u133 u134 u135 u136 u137 u138 u139 u140 u141 u142 u143 u144 u145 u146 u147 u148 u149 u150 u151 u152 u153 u154 u155 u156 u157 u158 u159 u160 u161 u162 u163 u164 u165 u166 u167 u168 u169 u170 u171 u172 u173 u174 u175 u176 u177 u178 u179 u180 u181 u182 u183 u184 u185 u186 u187 u188 u189 u190 u191 u192 u193 u194 u195 u196 u197 u198 u199 u200 u201 u202 u203 u204 u205 u206 u207 u208 u209 u210 u211 u212 u213 u214 u215 u216 u217 u218 u219 u220 u221 u222 u223 u224 u225 u226 u227 : Value) (hld : loadOf b = some ins) (hF : FieldsT fl) (hcp : cp < w.heap.size) (HRes : Hid (∀ W, Below w4.heap.size w4 W → W.heap[w.heap.size + 1 + 1]? = some (.cells #[.bool false, .int .i64 0, .int .i64 0] 40 (0, 0)) ∧ Below w.heap.size w W)) (HX : Hid (RJX b ins fl cp gf w4 wr A Ru St a q vs)) (hNN : byteAt b a = 2) :
    Code.wp Tryz.prog ((Tryz.f26.body.bind loopIn).getD .skip) (Exit.then (fun a' w'' => JI b ins fl cp gf w w4 A Ru St c1 c2 c3 c4 c5 c17 c18 c19 c20 c21 a' w'' ∧ JMu b a' w'' < b.length - a) (JQ (JRj b w A Ru St))) ⟨#[.pointer (some ⟨cp, 0, none⟩), c1, c2, c3, c4, c5, .pointer (some ⟨w.heap.size + 1 + 1, 0, none⟩), .slice (some ⟨gf, 0, none⟩) 9 9, vs, .slice (some ⟨w4.heap.size, 0, none⟩) 256 256, .slice (some ⟨w4.heap.size + 1, 0, none⟩) 5 5, .int .i64 a, .int .i64 q, u13, u14, u15, u16, c17, c18, c19, c20, c21, u22, u23, u24, u25, u26, u27, u28, u29, u30, u31, u32, u33, u34, u35, u36, u37, u38, u39, u40, u41, u42, u43, u44, u45, u46, u47, u48, u49, u50, u51, u52, u53, u54, u55, u56, u57, u58, u59, u60, u61, u62, u63, u64, u65, u66, u67, u68, u69, u70, u71, u72, u73, u74, u75, u76, u77, u78, u79, u80, u81, u82, u83, u84, u85, u86, u87, u88, u89, u90, u91, u92, u93, u94, u95, u96, u97, u98, u99, u100, u101, u102, u103, u104, u105, u106, u107, u108, u109, u110, u111, u112, u113, u114, u115, u116, u117, u118, u119, u120, u121, u122, u123, u124, u125, u126, u127, u128, u129, u130, u131, u132, u133, u134, u135, u136, u137, u138, u139, u140, u141, u142, u143, u144, u145, u146, u147, u148, u149, u150, u151, u152, u153, u154, u155, u156, u157, u158, u159, u160, u161, u162, u163, u164, u165, u166, u167, u168, u169, u170, u171, u172, u173, u174, u175, u176, u177, u178, u179, u180, u181, u182, u183, u184, u185, u186, u187, u188, u189, u190, u191, u192, u193, u194, u195, u196, u197, u198, u199, u200, u201, u202, u203, u204, u205, u206, u207, u208, u209, u210, u211, u212, u213, u214, u215, u216, u217, u218, u219, u220, u221, u222, u223, u224, u225, u226, u227], []⟩ wr := by
  obtain ⟨l1, l2, l3, l4, l5, l6, C0, l7, l8⟩ := load_known hld
  have HFL : Hid _ := hF
  have HLD : Hid _ := hld
  clear l7 l8 hF hld
  obtain ⟨C, i, k, st, cl, f, hG, hpl, hS, hJ⟩ := HX.out
  have hxo := l3.each _ (getD_ins hS.hi)
  have hab := at_b hxo
  have hplt := (pl_lt l3 hS.hi).2
  have hstop := hS.stop
  have hstep := hS.step l3 rfl l6 HFL.out hG
  have hop := (num_ok hxo).op
  rw [hpl] at hab hplt
  have hcc : wr.cell? ⟨cp, 0, none⟩ = some (S b) := cell_of_row wr cp 0 _ _ _ hJ.code
  have hex := ex_drop b (a := a)
  have hq0 : (0 : Int) ≤ (a : Int) ∧ (a : Int) ≤ (b.length : Int) := by omega
  have hqs : q ≤ 4000 := by have := hS.le; have := hS.hi; omega
  have e0 : byteAt b a = (ins.getD i noIns).op := by rw [← hab.b0, byte_drop]; rfl
  rw [hNN] at e0
  generalize ins.getD i noIns = x at *
  generalize b.drop a = bb at *
  have E0 : Hid _ := e0
  clear e0 hNN
  have hb0 : 0 < (ByteArray.mk bb.toArray).size := hab.pos
  have hv0 : ((ByteArray.mk bb.toArray)[0]).toNat = x.op := (ba_at bb 0 hb0).trans hab.b0
  have hbp := hab.pos
  have hb4 : bb.length ≤ 4000 := by have := hab.len; omega
  have W2 := fun w => size_any x.op (by omega) w
  have HRs : Hid _ := HRes.out wr hJ.bel
  clear HX
  obtain ⟨sa, scap, hu8⟩ := hJ.sta.sl
  rw [List.length_reverse] at hu8
  subst hu8
  have hsl := hS.dep
  have hsz9 := size_le x.op
  have ha4 : a ≤ 4000 := by omega
  conv => arg 2; whnf
  go_upto_block 2 with (first | (go_at_call 49; refine (W2 _).mono ?_; rintro e0 w' ⟨rfl, hw'⟩; obtain rfl := hw'.symm))
  have e := E0.out.symm
  clear E0
  rw [e]
  have hsz : sizeOp 2 = 2 := rfl
  rw [hsz]
  obtain ⟨t2, t3, t4⟩ := hab.two (by rw [e]; rfl)
  have hb1 : 1 < (ByteArray.mk bb.toArray).size := by show 1 < bb.length; omega
  have hv1 : ((ByteArray.mk bb.toArray)[1]).toNat = byteAt bb 1 := ba_at bb 1 hb1
  have hnn : x.n.toNat = byteAt bb 1 := by rw [t3]; omega
  obtain ⟨k', st', cl', jj, t, kq, f', g1, g2, g3, g4, g5⟩ := hstep (by omega)
  have g2' : some (x.n :: st, cl, false) = some (st', cl', jj) := by rw [← g2]; unfold stepK; rw [e]; rfl
  simp only [Option.some.injEq, Prod.mk.injEq] at g2'
  obtain ⟨rfl, rfl, rfl⟩ := g2'
  rw [if_neg (by decide), e, hsz] at g3
  have hval : x.n = (byteAt bb 1 : Int) := t3
  obtain ⟨i0, hi, hz⟩ := Option.map_eq_some_iff.1 info_i64j
  simp only [Prod.mk.injEq] at hz
  obtain ⟨hz0, hz1, hz2⟩ := hz
  have HR : Hid (wr.ownsRow 0 2 1 (.slice sa st.length scap) st.length (st.reverse.map (Value.int .i64))) := by
    have h := hJ.sta
    unfold IR at h
    show wr.ownsRow 0 2 1 (.slice sa st.length scap) st.length (st.reverse.map (Value.int .i64))
    simpa using h
  have HA : Hid (a + 2 < b.length) := by
    have := (pl_lt l3 g5.hi).2
    rw [g3, hpl] at this
    exact this
  have HN : Hid (∀ w5 vs, RJ w4 w5 cp gf (w4.heap.size + 1) w4.heap.size b fl vs (x.n :: st) cl → RJX b ins fl cp gf w4 w5 A Ru St (a + 2) (q + 1) vs) := fun w5 vs h => ⟨C, t, kq, _, cl, f', hG, by rw [g3, hpl], g5, h⟩
  have HP : Hid _ := @RJ.push w4 wr
  have HJ : Hid _ := hJ
  rw [hval] at HN
  clear hJ hS hstop hstep g1 g2 g3 g4 g5 hG hab hxo t3
  generalize byteAt bb 1 = c1 at *
  go_wp2_with (first | (at_builtin; go_must (refine wpList_append_lies _ (by rfl) _ _ 116 (by rfl) 0 2 i0 (.int .i64 0) 1 8 Tryz.underlying116 hi hz0 hz1 hz2 (by rfl) (by decide) _ _ _ (by rfl) (HR.out.alloc _) ⟨wr.heap.size, 0, none⟩ 1 1 [.int .i64 (c1 : Nat)] (by rfl) (by rfl) (World.news_of_block (heap_alloc_new wr _)) (fun x hx => by simp at hx; rcases hx with rfl; rfl) (by decide) (by unfold maxLen; omega) (by omega) (by simp) _ rfl ?_); intro gg cap' w5 hown3 hgrow hat hlt3))
  refine ⟨?_, by have := HA.out; simp [JMu, intOf]; omega⟩
  unfold JI
  refine ⟨_, _, _, _, _, _, _, _, _, _, _, _, _, _, _, _, _, _, _, _, _, _, _, _, _, _, _, _, _, _, _, _, _, _, _, _, _, _, _, _, _, _, _, _, _, _, _, _, _, _, _, _, _, _, _, _, _, _, _, _, _, _, _, _, _, _, _, _, _, _, _, _, _, _, _, _, _, _, _, _, _, _, _, _, _, _, _, _, _, _, _, _, _, _, _, _, _, _, _, _, _, _, _, _, _, _, _, _, _, _, _, _, _, _, _, _, _, _, _, _, _, _, _, _, _, _, _, _, _, _, _, _, _, _, _, _, _, _, _, _, _, _, _, _, _, _, _, _, _, _, _, _, _, _, _, _, _, _, _, _, _, _, _, _, _, _, _, _, _, _, _, _, _, _, _, _, _, _, _, _, _, _, _, _, _, _, _, _, _, _, _, _, _, _, _, _, _, _, _, _, _, _, _, _, _, _, _, _, _, _, _, _, _, ?_, rfl⟩
  exact ⟨a + 2, q + 1, by go_num, by go_num, HN.out _ _ (HJ.out.push _ hown3 hgrow hat)⟩
end Go.Proofs.YtfkdailfcmnjlaaGreatDoor

namespace Go.Proofs.YtfkdailfcmnjlaaGreatDoor
open Go Go.RowKit
set_option maxRecDepth 100000
attribute [local go_sem ↓] Go.wp_at_zero Go.wp_at_succ
set_option maxHeartbeats 8000000 in
set_option maxRecDepth 1000000 in
theorem rj_3 {b : List UInt8} {ins : List Ins} {fl : List Int} {cp gf : Nat} {w w4 wr : World} {A : Bool} {Ru St a q : Nat} {vs : Value} (c1 c2 c3 c4 c5 c17 c18 c19 c20 c21 : Value) (u13 u14 u15 u16 u22 u23 u24 u25 u26 u27 u28 u29 u30 u31 u32 u33 u34 u35 u36 u37 u38 u39 u40 u41 u42 u43 u44 u45 u46 u47 u48 u49 u50 u51 u52 u53 u54 u55 u56 u57 u58 u59 u60 u61 u62 u63 u64 u65 u66 u67 u68 u69 u70 u71 u72 u73 u74 u75 u76 u77 u78 u79 u80 u81 u82 u83 u84 u85 u86 u87 u88 u89 u90 u91 u92 u93 u94 u95 u96 u97 u98 u99 u100 u101 u102 u103 u104 u105 u106 u107 u108 u109 u110 u111 u112 u113 u114 u115 u116 u117 u118 u119 u120 u121 u122 u123 u124 u125 u126 u127 u128 u129 u130 u131 u132 u133 u134 u135 u136 u137 u138 u139 u140 u141 u142 u143 u144 u145 u146 u147 u148 u149 u150 u151 u152 u153 u154 u155 u156 u157 u158 u159 u160 u161 u162 u163 u164 u165 u166 u167 u168 u169 u170 u171 u172 u173 u174 u175 u176 u177 u178 u179 u180 u181 u182 u183 u184 u185 u186 u187 u188 u189 u190 u191 u192 u193 u194 u195 u196 u197 u198 u199 u200 u201 u202 u203 u204 u205 u206 u207 u208 u209 u210 u211 u212 u213 u214 u215 u216 u217 u218 u219 u220 u221 u222 u223 u224 u225 u226 u227 : Value) (hld : loadOf b = some ins) (hF : FieldsT fl) (hcp : cp < w.heap.size) (HRes : Hid (∀ W, Below w4.heap.size w4 W → W.heap[w.heap.size + 1 + 1]? = some (.cells #[.bool false, .int .i64 0, .int .i64 0] 40 (0, 0)) ∧ Below w.heap.size w W)) (HX : Hid (RJX b ins fl cp gf w4 wr A Ru St a q vs)) (hNN : byteAt b a = 3) :
    Code.wp Tryz.prog ((Tryz.f26.body.bind loopIn).getD .skip) (Exit.then (fun a' w'' => JI b ins fl cp gf w w4 A Ru St c1 c2 c3 c4 c5 c17 c18 c19 c20 c21 a' w'' ∧ JMu b a' w'' < b.length - a) (JQ (JRj b w A Ru St))) ⟨#[.pointer (some ⟨cp, 0, none⟩), c1, c2, c3, c4, c5, .pointer (some ⟨w.heap.size + 1 + 1, 0, none⟩), .slice (some ⟨gf, 0, none⟩) 9 9, vs, .slice (some ⟨w4.heap.size, 0, none⟩) 256 256, .slice (some ⟨w4.heap.size + 1, 0, none⟩) 5 5, .int .i64 a, .int .i64 q, u13, u14, u15, u16, c17, c18, c19, c20, c21, u22, u23, u24, u25, u26, u27, u28, u29, u30, u31, u32, u33, u34, u35, u36, u37, u38, u39, u40, u41, u42, u43, u44, u45, u46, u47, u48, u49, u50, u51, u52, u53, u54, u55, u56, u57, u58, u59, u60, u61, u62, u63, u64, u65, u66, u67, u68, u69, u70, u71, u72, u73, u74, u75, u76, u77, u78, u79, u80, u81, u82, u83, u84, u85, u86, u87, u88, u89, u90, u91, u92, u93, u94, u95, u96, u97, u98, u99, u100, u101, u102, u103, u104, u105, u106, u107, u108, u109, u110, u111, u112, u113, u114, u115, u116, u117, u118, u119, u120, u121, u122, u123, u124, u125, u126, u127, u128, u129, u130, u131, u132, u133, u134, u135, u136, u137, u138, u139, u140, u141, u142, u143, u144, u145, u146, u147, u148, u149, u150, u151, u152, u153, u154, u155, u156, u157, u158, u159, u160, u161, u162, u163, u164, u165, u166, u167, u168, u169, u170, u171, u172, u173, u174, u175, u176, u177, u178, u179, u180, u181, u182, u183, u184, u185, u186, u187, u188, u189, u190, u191, u192, u193, u194, u195, u196, u197, u198, u199, u200, u201, u202, u203, u204, u205, u206, u207, u208, u209, u210, u211, u212, u213, u214, u215, u216, u217, u218, u219, u220, u221, u222, u223, u224, u225, u226, u227], []⟩ wr := by
  obtain ⟨l1, l2, l3, l4, l5, l6, C0, l7, l8⟩ := load_known hld
  have HFL : Hid _ := hF
  have HLD : Hid _ := hld
  clear l7 l8 hF hld
  obtain ⟨C, i, k, st, cl, f, hG, hpl, hS, hJ⟩ := HX.out
  have hxo := l3.each _ (getD_ins hS.hi)
  have hab := at_b hxo
  have hplt := (pl_lt l3 hS.hi).2
  have hstop := hS.stop
  have hstep := hS.step l3 rfl l6 HFL.out hG
  have hop := (num_ok hxo).op
  rw [hpl] at hab hplt
  have hcc : wr.cell? ⟨cp, 0, none⟩ = some (S b) := cell_of_row wr cp 0 _ _ _ hJ.code
  have hex := ex_drop b (a := a)
  have hq0 : (0 : Int) ≤ (a : Int) ∧ (a : Int) ≤ (b.length : Int) := by omega
  have hqs : q ≤ 4000 := by have := hS.le; have := hS.hi; omega
  have e0 : byteAt b a = (ins.getD i noIns).op := by rw [← hab.b0, byte_drop]; rfl
  rw [hNN] at e0
  generalize ins.getD i noIns = x at *
  generalize b.drop a = bb at *
  have E0 : Hid _ := e0
  clear e0 hNN
  have hb0 : 0 < (ByteArray.mk bb.toArray).size := hab.pos
  have hv0 : ((ByteArray.mk bb.toArray)[0]).toNat = x.op := (ba_at bb 0 hb0).trans hab.b0
  have hbp := hab.pos
  have hb4 : bb.length ≤ 4000 := by have := hab.len; omega
  have W2 := fun w => size_any x.op (by omega) w
  have HRs : Hid _ := HRes.out wr hJ.bel
  clear HX
  obtain ⟨sa, scap, hu8⟩ := hJ.sta.sl
  rw [List.length_reverse] at hu8
  subst hu8
  have hsl := hS.dep
  have hsz9 := size_le x.op
  have ha4 : a ≤ 4000 := by omega
  conv => arg 2; whnf
  go_upto_block 2 with (first | (go_at_call 49; refine (W2 _).mono ?_; rintro e0 w' ⟨rfl, hw'⟩; obtain rfl := hw'.symm))
  have e := E0.out.symm
  clear E0
  rw [e]
  have hsz : sizeOp 3 = 2 := rfl
  rw [hsz]
  obtain ⟨t2, t3, t4⟩ := hab.two (by rw [e]; rfl)
  have hb1 : 1 < (ByteArray.mk bb.toArray).size := by show 1 < bb.length; omega
  have hv1 : ((ByteArray.mk bb.toArray)[1]).toNat = byteAt bb 1 := ba_at bb 1 hb1
  have hnn : x.n.toNat = byteAt bb 1 := by rw [t3]; omega
  obtain ⟨k', st', cl', jj, t, kq, f', g1, g2, g3, g4, g5⟩ := hstep (by omega)
  have g2' : some (x.n :: st, cl, false) = some (st', cl', jj) := by rw [← g2]; unfold stepK; rw [e]; rfl
  simp only [Option.some.injEq, Prod.mk.injEq] at g2'
  obtain ⟨rfl, rfl, rfl⟩ := g2'
  rw [if_neg (by decide), e, hsz] at g3
  have hval : x.n = (byteAt bb 1 : Int) := t3
  obtain ⟨i0, hi, hz⟩ := Option.map_eq_some_iff.1 info_i64j
  simp only [Prod.mk.injEq] at hz
  obtain ⟨hz0, hz1, hz2⟩ := hz
  have HR : Hid (wr.ownsRow 0 2 1 (.slice sa st.length scap) st.length (st.reverse.map (Value.int .i64))) := by
    have h := hJ.sta
    unfold IR at h
    show wr.ownsRow 0 2 1 (.slice sa st.length scap) st.length (st.reverse.map (Value.int .i64))
    simpa using h
  have HA : Hid (a + 2 < b.length) := by
    have := (pl_lt l3 g5.hi).2
    rw [g3, hpl] at this
    exact this
  have HN : Hid (∀ w5 vs, RJ w4 w5 cp gf (w4.heap.size + 1) w4.heap.size b fl vs (x.n :: st) cl → RJX b ins fl cp gf w4 w5 A Ru St (a + 2) (q + 1) vs) := fun w5 vs h => ⟨C, t, kq, _, cl, f', hG, by rw [g3, hpl], g5, h⟩
  have HP : Hid _ := @RJ.push w4 wr
  have HJ : Hid _ := hJ
  rw [hval] at HN
  clear hJ hS hstop hstep g1 g2 g3 g4 g5 hG hab hxo t3
  generalize byteAt bb 1 = c1 at *
  go_wp2_with (first | (at_builtin; go_must (refine wpList_append_lies _ (by rfl) _ _ 116 (by rfl) 0 2 i0 (.int .i64 0) 1 8 Tryz.underlying116 hi hz0 hz1 hz2 (by rfl) (by decide) _ _ _ (by rfl) (HR.out.alloc _) ⟨wr.heap.size, 0, none⟩ 1 1 [.int .i64 (c1 : Nat)] (by rfl) (by rfl) (World.news_of_block (heap_alloc_new wr _)) (fun x hx => by simp at hx; rcases hx with rfl; rfl) (by decide) (by unfold maxLen; omega) (by omega) (by simp) _ rfl ?_); intro gg cap' w5 hown3 hgrow hat hlt3))
  refine ⟨?_, by have := HA.out; simp [JMu, intOf]; omega⟩
  unfold JI
  refine ⟨_, _, _, _, _, _, _, _, _, _, _, _, _, _, _, _, _, _, _, _, _, _, _, _, _, _, _, _, _, _, _, _, _, _, _, _, _, _, _, _, _, _, _, _, _, _, _, _, _, _, _, _, _, _, _, _, _, _, _, _, _, _, _, _, _, _, _, _, _, _, _, _, _, _, _, _, _, _, _, _, _, _, _, _, _, _, _, _, _, _, _, _, _, _, _, _, _, _, _, _, _, _, _, _, _, _, _, _, _, _, _, _, _, _, _, _, _, _, _, _, _, _, _, _, _, _, _, _, _, _, _, _, _, _, _, _, _, _, _, _, _, _, _, _, _, _, _, _, _, _, _, _, _, _, _, _, _, _, _, _, _, _, _, _, _, _, _, _, _, _, _, _, _, _, _, _, _, _, _, _, _, _, _, _, _, _, _, _, _, _, _, _, _, _, _, _, _, _, _, _, _, _, _, _, _, _, _, _, _, _, _, _, _, ?_, rfl⟩
  exact ⟨a + 2, q + 1, by go_num, by go_num, HN.out _ _ (HJ.out.push _ hown3 hgrow hat)⟩
end Go.Proofs.YtfkdailfcmnjlaaGreatDoor

namespace Go.Proofs.YtfkdailfcmnjlaaGreatDoor
open Go Go.RowKit
set_option maxRecDepth 100000
attribute [local go_sem ↓] Go.wp_at_zero Go.wp_at_succ
set_option maxHeartbeats 8000000 in
set_option maxRecDepth 1000000 in
theorem rj_4 {b : List UInt8} {ins : List Ins} {fl : List Int} {cp gf : Nat} {w w4 wr : World} {A : Bool} {Ru St a q : Nat} {vs : Value} (c1 c2 c3 c4 c5 c17 c18 c19 c20 c21 : Value) (u13 u14 u15 u16 u22 u23 u24 u25 u26 u27 u28 u29 u30 u31 u32 u33 u34 u35 u36 u37 u38 u39 u40 u41 u42 u43 u44 u45 u46 u47 u48 u49 u50 u51 u52 u53 u54 u55 u56 u57 u58 u59 u60 u61 u62 u63 u64 u65 u66 u67 u68 u69 u70 u71 u72 u73 u74 u75 u76 u77 u78 u79 u80 u81 u82 u83 u84 u85 u86 u87 u88 u89 u90 u91 u92 u93 u94 u95 u96 u97 u98 u99 u100 u101 u102 u103 u104 u105 u106 u107 u108 u109 u110 u111 u112 u113 u114 u115 u116 u117 u118 u119 u120 u121 u122 u123 u124 u125 u126 u127 u128 u129 u130 u131 u132 u133 u134 u135 u136 u137 u138 u139 u140 u141 u142 u143 u144 u145 u146 u147 u148 u149 u150 u151 u152 u153 u154 u155 u156 u157 u158 u159 u160 u161 u162 u163 u164 u165 u166 u167 u168 u169 u170 u171 u172 u173 u174 u175 u176 u177 u178 u179 u180 u181 u182 u183 u184 u185 u186 u187 u188 u189 u190 u191 u192 u193 u194 u195 u196 u197 u198 u199 u200 u201 u202 u203 u204 u205 u206 u207 u208 u209 u210 u211 u212 u213 u214 u215 u216 u217 u218 u219 u220 u221 u222 u223 u224 u225 u226 u227 : Value) (hld : loadOf b = some ins) (hF : FieldsT fl) (hcp : cp < w.heap.size) (HRes : Hid (∀ W, Below w4.heap.size w4 W → W.heap[w.heap.size + 1 + 1]? = some (.cells #[.bool false, .int .i64 0, .int .i64 0] 40 (0, 0)) ∧ Below w.heap.size w W)) (HX : Hid (RJX b ins fl cp gf w4 wr A Ru St a q vs)) (hNN : byteAt b a = 4) :
    Code.wp Tryz.prog ((Tryz.f26.body.bind loopIn).getD .skip) (Exit.then (fun a' w'' => JI b ins fl cp gf w w4 A Ru St c1 c2 c3 c4 c5 c17 c18 c19 c20 c21 a' w'' ∧ JMu b a' w'' < b.length - a) (JQ (JRj b w A Ru St))) ⟨#[.pointer (some ⟨cp, 0, none⟩), c1, c2, c3, c4, c5, .pointer (some ⟨w.heap.size + 1 + 1, 0, none⟩), .slice (some ⟨gf, 0, none⟩) 9 9, vs, .slice (some ⟨w4.heap.size, 0, none⟩) 256 256, .slice (some ⟨w4.heap.size + 1, 0, none⟩) 5 5, .int .i64 a, .int .i64 q, u13, u14, u15, u16, c17, c18, c19, c20, c21, u22, u23, u24, u25, u26, u27, u28, u29, u30, u31, u32, u33, u34, u35, u36, u37, u38, u39, u40, u41, u42, u43, u44, u45, u46, u47, u48, u49, u50, u51, u52, u53, u54, u55, u56, u57, u58, u59, u60, u61, u62, u63, u64, u65, u66, u67, u68, u69, u70, u71, u72, u73, u74, u75, u76, u77, u78, u79, u80, u81, u82, u83, u84, u85, u86, u87, u88, u89, u90, u91, u92, u93, u94, u95, u96, u97, u98, u99, u100, u101, u102, u103, u104, u105, u106, u107, u108, u109, u110, u111, u112, u113, u114, u115, u116, u117, u118, u119, u120, u121, u122, u123, u124, u125, u126, u127, u128, u129, u130, u131, u132, u133, u134, u135, u136, u137, u138, u139, u140, u141, u142, u143, u144, u145, u146, u147, u148, u149, u150, u151, u152, u153, u154, u155, u156, u157, u158, u159, u160, u161, u162, u163, u164, u165, u166, u167, u168, u169, u170, u171, u172, u173, u174, u175, u176, u177, u178, u179, u180, u181, u182, u183, u184, u185, u186, u187, u188, u189, u190, u191, u192, u193, u194, u195, u196, u197, u198, u199, u200, u201, u202, u203, u204, u205, u206, u207, u208, u209, u210, u211, u212, u213, u214, u215, u216, u217, u218, u219, u220, u221, u222, u223, u224, u225, u226, u227], []⟩ wr := by
  obtain ⟨l1, l2, l3, l4, l5, l6, C0, l7, l8⟩ := load_known hld
  have HFL : Hid _ := hF
  have HLD : Hid _ := hld
  clear l7 l8 hF hld
  obtain ⟨C, i, k, st, cl, f, hG, hpl, hS, hJ⟩ := HX.out
  have hxo := l3.each _ (getD_ins hS.hi)
  have hab := at_b hxo
  have hplt := (pl_lt l3 hS.hi).2
  have hstop := hS.stop
  have hstep := hS.step l3 rfl l6 HFL.out hG
  have hop := (num_ok hxo).op
  rw [hpl] at hab hplt
  have hcc : wr.cell? ⟨cp, 0, none⟩ = some (S b) := cell_of_row wr cp 0 _ _ _ hJ.code
  have hex := ex_drop b (a := a)
  have hq0 : (0 : Int) ≤ (a : Int) ∧ (a : Int) ≤ (b.length : Int) := by omega
  have hqs : q ≤ 4000 := by have := hS.le; have := hS.hi; omega
  have e0 : byteAt b a = (ins.getD i noIns).op := by rw [← hab.b0, byte_drop]; rfl
  rw [hNN] at e0
  generalize ins.getD i noIns = x at *
  generalize b.drop a = bb at *
  have E0 : Hid _ := e0
  clear e0 hNN
  have hb0 : 0 < (ByteArray.mk bb.toArray).size := hab.pos
  have hv0 : ((ByteArray.mk bb.toArray)[0]).toNat = x.op := (ba_at bb 0 hb0).trans hab.b0
  have hbp := hab.pos
  have hb4 : bb.length ≤ 4000 := by have := hab.len; omega
  have W2 := fun w => size_any x.op (by omega) w
  have HRs : Hid _ := HRes.out wr hJ.bel
  clear HX
  obtain ⟨sa, scap, hu8⟩ := hJ.sta.sl
  rw [List.length_reverse] at hu8
  subst hu8
  have hsl := hS.dep
  have hsz9 := size_le x.op
  have ha4 : a ≤ 4000 := by omega
  conv => arg 2; whnf
  go_upto_block 2 with (first | (go_at_call 49; refine (W2 _).mono ?_; rintro e0 w' ⟨rfl, hw'⟩; obtain rfl := hw'.symm))
  have e := E0.out.symm
  clear E0
  rw [e]
  have hsz : sizeOp 4 = 2 := rfl
  rw [hsz]
  obtain ⟨t2, t3, t4⟩ := hab.two (by rw [e]; rfl)
  have hb1 : 1 < (ByteArray.mk bb.toArray).size := by show 1 < bb.length; omega
  have hv1 : ((ByteArray.mk bb.toArray)[1]).toNat = byteAt bb 1 := ba_at bb 1 hb1
  have hnn : x.n.toNat = byteAt bb 1 := by rw [t3]; omega
  obtain ⟨k', st', cl', jj, t, kq, f', g1, g2, g3, g4, g5⟩ := hstep (by omega)
  have g2' : some (fl.getD x.n.toNat 0 :: st, cl, false) = some (st', cl', jj) := by rw [← g2]; unfold stepK; rw [e]; rfl
  simp only [Option.some.injEq, Prod.mk.injEq] at g2'
  obtain ⟨rfl, rfl, rfl⟩ := g2'
  rw [if_neg (by decide), e, hsz] at g3
  have hbd := (num_ok hxo).two (by rw [e]; rfl)
  have hbo : boundOp x.op (byteAt b 2) = 8 := by rw [e]; rfl
  have hc9 : byteAt bb 1 < 9 := by omega
  have hfc := hJ.fld (byteAt bb 1) hc9
  rw [hnn] at g5
  obtain ⟨i0, hi, hz⟩ := Option.map_eq_some_iff.1 info_i64j
  simp only [Prod.mk.injEq] at hz
  obtain ⟨hz0, hz1, hz2⟩ := hz
  have HR : Hid (wr.ownsRow 0 2 1 (.slice sa st.length scap) st.length (st.reverse.map (Value.int .i64))) := by
    have h := hJ.sta
    unfold IR at h
    show wr.ownsRow 0 2 1 (.slice sa st.length scap) st.length (st.reverse.map (Value.int .i64))
    simpa using h
  have HA : Hid (a + 2 < b.length) := by
    have := (pl_lt l3 g5.hi).2
    rw [g3, hpl] at this
    exact this
  have HN : Hid (∀ w5 vs, RJ w4 w5 cp gf (w4.heap.size + 1) w4.heap.size b fl vs (fl.getD (byteAt bb 1) 0 :: st) cl → RJX b ins fl cp gf w4 w5 A Ru St (a + 2) (q + 1) vs) := fun w5 vs h => ⟨C, t, kq, _, cl, f', hG, by rw [g3, hpl], g5, h⟩
  have HP : Hid _ := @RJ.push w4 wr
  have HJ : Hid _ := hJ
  clear hJ hS hstop hstep g1 g2 g3 g4 g5 hG hab hxo t3
  generalize byteAt bb 1 = c1 at *
  generalize fl.getD c1 0 = vv at *
  go_wp2_with (first | (at_builtin; go_must (refine wpList_append_lies _ (by rfl) _ _ 116 (by rfl) 0 2 i0 (.int .i64 0) 1 8 Tryz.underlying116 hi hz0 hz1 hz2 (by rfl) (by decide) _ _ _ (by rfl) (HR.out.alloc _) ⟨wr.heap.size, 0, none⟩ 1 1 [.int .i64 vv] (by rfl) (by rfl) (World.news_of_block (heap_alloc_new wr _)) (fun x hx => by simp at hx; rcases hx with rfl; rfl) (by decide) (by unfold maxLen; omega) (by omega) (by simp) _ rfl ?_); intro gg cap' w5 hown3 hgrow hat hlt3))
  refine ⟨?_, by have := HA.out; simp [JMu, intOf]; omega⟩
  unfold JI
  refine ⟨_, _, _, _, _, _, _, _, _, _, _, _, _, _, _, _, _, _, _, _, _, _, _, _, _, _, _, _, _, _, _, _, _, _, _, _, _, _, _, _, _, _, _, _, _, _, _, _, _, _, _, _, _, _, _, _, _, _, _, _, _, _, _, _, _, _, _, _, _, _, _, _, _, _, _, _, _, _, _, _, _, _, _, _, _, _, _, _, _, _, _, _, _, _, _, _, _, _, _, _, _, _, _, _, _, _, _, _, _, _, _, _, _, _, _, _, _, _, _, _, _, _, _, _, _, _, _, _, _, _, _, _, _, _, _, _, _, _, _, _, _, _, _, _, _, _, _, _, _, _, _, _, _, _, _, _, _, _, _, _, _, _, _, _, _, _, _, _, _, _, _, _, _, _, _, _, _, _, _, _, _, _, _, _, _, _, _, _, _, _, _, _, _, _, _, _, _, _, _, _, _, _, _, _, _, _, _, _, _, _, _, _, _, ?_, rfl⟩
  exact ⟨a + 2, q + 1, by go_num, by go_num, HN.out _ _ (HJ.out.push _ hown3 hgrow hat)⟩
end Go.Proofs.YtfkdailfcmnjlaaGreatDoor

namespace Go.Proofs.YtfkdailfcmnjlaaGreatDoor
open Go Go.RowKit
set_option maxRecDepth 100000
attribute [local go_sem ↓] Go.wp_at_zero Go.wp_at_succ
set_option maxHeartbeats 8000000 in
set_option maxRecDepth 1000000 in
theorem rj_5 {b : List UInt8} {ins : List Ins} {fl : List Int} {cp gf : Nat} {w w4 wr : World} {A : Bool} {Ru St a q : Nat} {vs : Value} (c1 c2 c3 c4 c5 c17 c18 c19 c20 c21 : Value) (u13 u14 u15 u16 u22 u23 u24 u25 u26 u27 u28 u29 u30 u31 u32 u33 u34 u35 u36 u37 u38 u39 u40 u41 u42 u43 u44 u45 u46 u47 u48 u49 u50 u51 u52 u53 u54 u55 u56 u57 u58 u59 u60 u61 u62 u63 u64 u65 u66 u67 u68 u69 u70 u71 u72 u73 u74 u75 u76 u77 u78 u79 u80 u81 u82 u83 u84 u85 u86 u87 u88 u89 u90 u91 u92 u93 u94 u95 u96 u97 u98 u99 u100 u101 u102 u103 u104 u105 u106 u107 u108 u109 u110 u111 u112 u113 u114 u115 u116 u117 u118 u119 u120 u121 u122 u123 u124 u125 u126 u127 u128 u129 u130 u131 u132 u133 u134 u135 u136 u137 u138 u139 u140 u141 u142 u143 u144 u145 u146 u147 u148 u149 u150 u151 u152 u153 u154 u155 u156 u157 u158 u159 u160 u161 u162 u163 u164 u165 u166 u167 u168 u169 u170 u171 u172 u173 u174 u175 u176 u177 u178 u179 u180 u181 u182 u183 u184 u185 u186 u187 u188 u189 u190 u191 u192 u193 u194 u195 u196 u197 u198 u199 u200 u201 u202 u203 u204 u205 u206 u207 u208 u209 u210 u211 u212 u213 u214 u215 u216 u217 u218 u219 u220 u221 u222 u223 u224 u225 u226 u227 : Value) (hld : loadOf b = some ins) (hF : FieldsT fl) (hcp : cp < w.heap.size) (HRes : Hid (∀ W, Below w4.heap.size w4 W → W.heap[w.heap.size + 1 + 1]? = some (.cells #[.bool false, .int .i64 0, .int .i64 0] 40 (0, 0)) ∧ Below w.heap.size w W)) (HX : Hid (RJX b ins fl cp gf w4 wr A Ru St a q vs)) (hNN : byteAt b a = 5) :
    Code.wp Tryz.prog ((Tryz.f26.body.bind loopIn).getD .skip) (Exit.then (fun a' w'' => JI b ins fl cp gf w w4 A Ru St c1 c2 c3 c4 c5 c17 c18 c19 c20 c21 a' w'' ∧ JMu b a' w'' < b.length - a) (JQ (JRj b w A Ru St))) ⟨#[.pointer (some ⟨cp, 0, none⟩), c1, c2, c3, c4, c5, .pointer (some ⟨w.heap.size + 1 + 1, 0, none⟩), .slice (some ⟨gf, 0, none⟩) 9 9, vs, .slice (some ⟨w4.heap.size, 0, none⟩) 256 256, .slice (some ⟨w4.heap.size + 1, 0, none⟩) 5 5, .int .i64 a, .int .i64 q, u13, u14, u15, u16, c17, c18, c19, c20, c21, u22, u23, u24, u25, u26, u27, u28, u29, u30, u31, u32, u33, u34, u35, u36, u37, u38, u39, u40, u41, u42, u43, u44, u45, u46, u47, u48, u49, u50, u51, u52, u53, u54, u55, u56, u57, u58, u59, u60, u61, u62, u63, u64, u65, u66, u67, u68, u69, u70, u71, u72, u73, u74, u75, u76, u77, u78, u79, u80, u81, u82, u83, u84, u85, u86, u87, u88, u89, u90, u91, u92, u93, u94, u95, u96, u97, u98, u99, u100, u101, u102, u103, u104, u105, u106, u107, u108, u109, u110, u111, u112, u113, u114, u115, u116, u117, u118, u119, u120, u121, u122, u123, u124, u125, u126, u127, u128, u129, u130, u131, u132, u133, u134, u135, u136, u137, u138, u139, u140, u141, u142, u143, u144, u145, u146, u147, u148, u149, u150, u151, u152, u153, u154, u155, u156, u157, u158, u159, u160, u161, u162, u163, u164, u165, u166, u167, u168, u169, u170, u171, u172, u173, u174, u175, u176, u177, u178, u179, u180, u181, u182, u183, u184, u185, u186, u187, u188, u189, u190, u191, u192, u193, u194, u195, u196, u197, u198, u199, u200, u201, u202, u203, u204, u205, u206, u207, u208, u209, u210, u211, u212, u213, u214, u215, u216, u217, u218, u219, u220, u221, u222, u223, u224, u225, u226, u227], []⟩ wr := by
  obtain ⟨l1, l2, l3, l4, l5, l6, C0, l7, l8⟩ := load_known hld
  have HFL : Hid _ := hF
  have HLD : Hid _ := hld
  clear l7 l8 hF hld
  obtain ⟨C, i, k, st, cl, f, hG, hpl, hS, hJ⟩ := HX.out
  have hxo := l3.each _ (getD_ins hS.hi)
  have hab := at_b hxo
  have hplt := (pl_lt l3 hS.hi).2
  have hstop := hS.stop
  have hstep := hS.step l3 rfl l6 HFL.out hG
  have hop := (num_ok hxo).op
  rw [hpl] at hab hplt
  have hcc : wr.cell? ⟨cp, 0, none⟩ = some (S b) := cell_of_row wr cp 0 _ _ _ hJ.code
  have hex := ex_drop b (a := a)
  have hq0 : (0 : Int) ≤ (a : Int) ∧ (a : Int) ≤ (b.length : Int) := by omega
  have hqs : q ≤ 4000 := by have := hS.le; have := hS.hi; omega
  have e0 : byteAt b a = (ins.getD i noIns).op := by rw [← hab.b0, byte_drop]; rfl
  rw [hNN] at e0
  generalize ins.getD i noIns = x at *
  generalize b.drop a = bb at *
  have E0 : Hid _ := e0
  clear e0 hNN
  have hb0 : 0 < (ByteArray.mk bb.toArray).size := hab.pos
  have hv0 : ((ByteArray.mk bb.toArray)[0]).toNat = x.op := (ba_at bb 0 hb0).trans hab.b0
  have hbp := hab.pos
  have hb4 : bb.length ≤ 4000 := by have := hab.len; omega
  have W2 := fun w => size_any x.op (by omega) w
  have HRs : Hid _ := HRes.out wr hJ.bel
  clear HX
  obtain ⟨sa, scap, hu8⟩ := hJ.sta.sl
  rw [List.length_reverse] at hu8
  subst hu8
  have hsl := hS.dep
  have hsz9 := size_le x.op
  have ha4 : a ≤ 4000 := by omega
  conv => arg 2; whnf
  go_upto_block 2 with (first | (go_at_call 49; refine (W2 _).mono ?_; rintro e0 w' ⟨rfl, hw'⟩; obtain rfl := hw'.symm))
  have e := E0.out.symm
  clear E0
  rw [e]
  have hsz : sizeOp 5 = 2 := rfl
  rw [hsz]
  obtain ⟨t2, t3, t4⟩ := hab.two (by rw [e]; rfl)
  have hb1 : 1 < (ByteArray.mk bb.toArray).size := by show 1 < bb.length; omega
  have hv1 : ((ByteArray.mk bb.toArray)[1]).toNat = byteAt bb 1 := ba_at bb 1 hb1
  have hnn : x.n.toNat = byteAt bb 1 := by rw [t3]; omega
  obtain ⟨k', st', cl', jj, t, kq, f', g1, g2, g3, g4, g5⟩ := hstep (by omega)
  cases st with
  | nil =>
    exfalso
    unfold stepK at g2
    rw [e] at g2
    cases g2
  | cons v r =>
    have g2' : some (r, cl.set x.n.toNat v, false) = some (st', cl', jj) := by rw [← g2]; unfold stepK; rw [e]; rfl
    simp only [Option.some.injEq, Prod.mk.injEq] at g2'
    obtain ⟨rfl, rfl, rfl⟩ := g2'
    obtain ⟨g, cap, hform, hcap⟩ := hJ.form
    simp only [List.length_cons, Value.slice.injEq] at hform
    obtain ⟨rfl, -, rfl⟩ := hform
    have hsl' : r.length + 1 ≤ 24 := hsl
    obtain ⟨htop, hfz⟩ := RJ.top (v := v) (r := r) hJ
    have hfz0 := hfz r.length
    have hin : (0 : Int) ≤ (r.length : Int) + 1 - 1 ∧ (r.length : Int) + 1 - 1 < (r.length : Int) + 1 := by omega
    have hin2 : (0 : Int) ≤ (r.length : Int) + 1 - 1 ∧ (r.length : Int) + 1 - 1 ≤ (scap : Int) := by omega
    have hbd := (num_ok hxo).two (by rw [e]; rfl)
    have hbo : boundOp x.op (byteAt b 2) = (byteAt b 2 : Int) - 1 := by rw [e]; rfl
    have hcn : byteAt bb 1 < cl.length := by rw [hS.fit.len]; omega
    obtain ⟨hcc1, hcf1⟩ := hJ.cell hcn
    have hgne : g ≠ w4.heap.size := (hJ.own g rfl).2.2.2
    rw [hnn] at g5
    rw [if_neg (by decide), e, hsz] at g3
    have HA : Hid (a + 2 < b.length) := by
      have := (pl_lt l3 g5.hi).2
      rw [g3, hpl] at this
      exact this
    have HN : Hid (RJX b ins fl cp gf w4 (wr.setCell ⟨w4.heap.size, byteAt bb 1, none⟩ (.int .i64 v)) A Ru St (a + 2) (q + 1) (.slice (some ⟨g, 0, none⟩) r.length scap)) := ⟨C, t, kq, r, _, f', hG, by rw [g3, hpl], g5, (RJ.pop (v := v) (r := r) hJ).put hcn v⟩
    clear hJ hS hstop hstep g1 g2 g3 g4 g5 hG hab hxo t3 hbd hbo hfz
    generalize byteAt bb 1 = c1 at *
    go_wp2_with fail
    go_region
    go_wp2
    refine ⟨?_, by have := HA.out; simp [JMu, intOf]; omega⟩
    unfold JI
    refine ⟨_, _, _, _, _, _, _, _, _, _, _, _, _, _, _, _, _, _, _, _, _, _, _, _, _, _, _, _, _, _, _, _, _, _, _, _, _, _, _, _, _, _, _, _, _, _, _, _, _, _, _, _, _, _, _, _, _, _, _, _, _, _, _, _, _, _, _, _, _, _, _, _, _, _, _, _, _, _, _, _, _, _, _, _, _, _, _, _, _, _, _, _, _, _, _, _, _, _, _, _, _, _, _, _, _, _, _, _, _, _, _, _, _, _, _, _, _, _, _, _, _, _, _, _, _, _, _, _, _, _, _, _, _, _, _, _, _, _, _, _, _, _, _, _, _, _, _, _, _, _, _, _, _, _, _, _, _, _, _, _, _, _, _, _, _, _, _, _, _, _, _, _, _, _, _, _, _, _, _, _, _, _, _, _, _, _, _, _, _, _, _, _, _, _, _, _, _, _, _, _, _, _, _, _, _, _, _, _, _, _, _, _, _, ?_, rfl⟩
    exact ⟨a + 2, q + 1, by go_num, by go_num, HN.out.below (by first | exact Below.refl _ _ | exact below_drewN (Below.refl _ _) _ | exact (Below.refl _ _).drew)⟩
end Go.Proofs.YtfkdailfcmnjlaaGreatDoor

namespace Go.Proofs.YtfkdailfcmnjlaaGreatDoor
open Go Go.RowKit
set_option maxRecDepth 100000
attribute [local go_sem ↓] Go.wp_at_zero Go.wp_at_succ
set_option maxHeartbeats 8000000 in
set_option maxRecDepth 1000000 in
theorem rj_6 {b : List UInt8} {ins : List Ins} {fl : List Int} {cp gf : Nat} {w w4 wr : World} {A : Bool} {Ru St a q : Nat} {vs : Value} (c1 c2 c3 c4 c5 c17 c18 c19 c20 c21 : Value) (u13 u14 u15 u16 u22 u23 u24 u25 u26 u27 u28 u29 u30 u31 u32 u33 u34 u35 u36 u37 u38 u39 u40 u41 u42 u43 u44 u45 u46 u47 u48 u49 u50 u51 u52 u53 u54 u55 u56 u57 u58 u59 u60 u61 u62 u63 u64 u65 u66 u67 u68 u69 u70 u71 u72 u73 u74 u75 u76 u77 u78 u79 u80 u81 u82 u83 u84 u85 u86 u87 u88 u89 u90 u91 u92 u93 u94 u95 u96 u97 u98 u99 u100 u101 u102 u103 u104 u105 u106 u107 u108 u109 u110 u111 u112 u113 u114 u115 u116 u117 u118 u119 u120 u121 u122 u123 u124 u125 u126 u127 u128 u129 u130 u131 u132 u133 u134 u135 u136 u137 u138 u139 u140 u141 u142 u143 u144 u145 u146 u147 u148 u149 u150 u151 u152 u153 u154 u155 u156 u157 u158 u159 u160 u161 u162 u163 u164 u165 u166 u167 u168 u169 u170 u171 u172 u173 u174 u175 u176 u177 u178 u179 u180 u181 u182 u183 u184 u185 u186 u187 u188 u189 u190 u191 u192 u193 u194 u195 u196 u197 u198 u199 u200 u201 u202 u203 u204 u205 u206 u207 u208 u209 u210 u211 u212 u213 u214 u215 u216 u217 u218 u219 u220 u221 u222 u223 u224 u225 u226 u227 : Value) (hld : loadOf b = some ins) (hF : FieldsT fl) (hcp : cp < w.heap.size) (HRes : Hid (∀ W, Below w4.heap.size w4 W → W.heap[w.heap.size + 1 + 1]? = some (.cells #[.bool false, .int .i64 0, .int .i64 0] 40 (0, 0)) ∧ Below w.heap.size w W)) (HX : Hid (RJX b ins fl cp gf w4 wr A Ru St a q vs)) (hNN : byteAt b a = 6) :
    Code.wp Tryz.prog ((Tryz.f26.body.bind loopIn).getD .skip) (Exit.then (fun a' w'' => JI b ins fl cp gf w w4 A Ru St c1 c2 c3 c4 c5 c17 c18 c19 c20 c21 a' w'' ∧ JMu b a' w'' < b.length - a) (JQ (JRj b w A Ru St))) ⟨#[.pointer (some ⟨cp, 0, none⟩), c1, c2, c3, c4, c5, .pointer (some ⟨w.heap.size + 1 + 1, 0, none⟩), .slice (some ⟨gf, 0, none⟩) 9 9, vs, .slice (some ⟨w4.heap.size, 0, none⟩) 256 256, .slice (some ⟨w4.heap.size + 1, 0, none⟩) 5 5, .int .i64 a, .int .i64 q, u13, u14, u15, u16, c17, c18, c19, c20, c21, u22, u23, u24, u25, u26, u27, u28, u29, u30, u31, u32, u33, u34, u35, u36, u37, u38, u39, u40, u41, u42, u43, u44, u45, u46, u47, u48, u49, u50, u51, u52, u53, u54, u55, u56, u57, u58, u59, u60, u61, u62, u63, u64, u65, u66, u67, u68, u69, u70, u71, u72, u73, u74, u75, u76, u77, u78, u79, u80, u81, u82, u83, u84, u85, u86, u87, u88, u89, u90, u91, u92, u93, u94, u95, u96, u97, u98, u99, u100, u101, u102, u103, u104, u105, u106, u107, u108, u109, u110, u111, u112, u113, u114, u115, u116, u117, u118, u119, u120, u121, u122, u123, u124, u125, u126, u127, u128, u129, u130, u131, u132, u133, u134, u135, u136, u137, u138, u139, u140, u141, u142, u143, u144, u145, u146, u147, u148, u149, u150, u151, u152, u153, u154, u155, u156, u157, u158, u159, u160, u161, u162, u163, u164, u165, u166, u167, u168, u169, u170, u171, u172, u173, u174, u175, u176, u177, u178, u179, u180, u181, u182, u183, u184, u185, u186, u187, u188, u189, u190, u191, u192, u193, u194, u195, u196, u197, u198, u199, u200, u201, u202, u203, u204, u205, u206, u207, u208, u209, u210, u211, u212, u213, u214, u215, u216, u217, u218, u219, u220, u221, u222, u223, u224, u225, u226, u227], []⟩ wr := by
  obtain ⟨l1, l2, l3, l4, l5, l6, C0, l7, l8⟩ := load_known hld
  have HFL : Hid _ := hF
  have HLD : Hid _ := hld
  clear l7 l8 hF hld
  obtain ⟨C, i, k, st, cl, f, hG, hpl, hS, hJ⟩ := HX.out
  have hxo := l3.each _ (getD_ins hS.hi)
  have hab := at_b hxo
  have hplt := (pl_lt l3 hS.hi).2
  have hstop := hS.stop
  have hstep := hS.step l3 rfl l6 HFL.out hG
  have hop := (num_ok hxo).op
  rw [hpl] at hab hplt
  have hcc : wr.cell? ⟨cp, 0, none⟩ = some (S b) := cell_of_row wr cp 0 _ _ _ hJ.code
  have hex := ex_drop b (a := a)
  have hq0 : (0 : Int) ≤ (a : Int) ∧ (a : Int) ≤ (b.length : Int) := by omega
  have hqs : q ≤ 4000 := by have := hS.le; have := hS.hi; omega
  have e0 : byteAt b a = (ins.getD i noIns).op := by rw [← hab.b0, byte_drop]; rfl
  rw [hNN] at e0
  generalize ins.getD i noIns = x at *
  generalize b.drop a = bb at *
  have E0 : Hid _ := e0
  clear e0 hNN
  have hb0 : 0 < (ByteArray.mk bb.toArray).size := hab.pos
  have hv0 : ((ByteArray.mk bb.toArray)[0]).toNat = x.op := (ba_at bb 0 hb0).trans hab.b0
  have hbp := hab.pos
  have hb4 : bb.length ≤ 4000 := by have := hab.len; omega
  have W2 := fun w => size_any x.op (by omega) w
  have HRs : Hid _ := HRes.out wr hJ.bel
  clear HX
  obtain ⟨sa, scap, hu8⟩ := hJ.sta.sl
  rw [List.length_reverse] at hu8
  subst hu8
  have hsl := hS.dep
  have hsz9 := size_le x.op
  have ha4 : a ≤ 4000 := by omega
  conv => arg 2; whnf
  go_upto_block 2 with (first | (go_at_call 49; refine (W2 _).mono ?_; rintro e0 w' ⟨rfl, hw'⟩; obtain rfl := hw'.symm))
  have e := E0.out.symm
  clear E0
  rw [e]
  have hsz : sizeOp 6 = 2 := rfl
  rw [hsz]
  obtain ⟨t2, t3, t4⟩ := hab.two (by rw [e]; rfl)
  have hb1 : 1 < (ByteArray.mk bb.toArray).size := by show 1 < bb.length; omega
  have hv1 : ((ByteArray.mk bb.toArray)[1]).toNat = byteAt bb 1 := ba_at bb 1 hb1
  have hnn : x.n.toNat = byteAt bb 1 := by rw [t3]; omega
  obtain ⟨k', st', cl', jj, t, kq, f', g1, g2, g3, g4, g5⟩ := hstep (by omega)
  have g2' : some (cl.getD x.n.toNat 0 :: st, cl, false) = some (st', cl', jj) := by rw [← g2]; unfold stepK; rw [e]; rfl
  simp only [Option.some.injEq, Prod.mk.injEq] at g2'
  obtain ⟨rfl, rfl, rfl⟩ := g2'
  rw [if_neg (by decide), e, hsz] at g3
  have hbd := (num_ok hxo).two (by rw [e]; rfl)
  have hbo : boundOp x.op (byteAt b 2) = (byteAt b 2 : Int) - 1 := by rw [e]; rfl
  have hcn : byteAt bb 1 < cl.length := by rw [hS.fit.len]; omega
  have hfc := (hJ.cell hcn).1
  have hc256 : byteAt bb 1 < 256 := t4
  rw [hnn] at g5
  obtain ⟨i0, hi, hz⟩ := Option.map_eq_some_iff.1 info_i64j
  simp only [Prod.mk.injEq] at hz
  obtain ⟨hz0, hz1, hz2⟩ := hz
  have HR : Hid (wr.ownsRow 0 2 1 (.slice sa st.length scap) st.length (st.reverse.map (Value.int .i64))) := by
    have h := hJ.sta
    unfold IR at h
    show wr.ownsRow 0 2 1 (.slice sa st.length scap) st.length (st.reverse.map (Value.int .i64))
    simpa using h
  have HA : Hid (a + 2 < b.length) := by
    have := (pl_lt l3 g5.hi).2
    rw [g3, hpl] at this
    exact this
  have HN : Hid (∀ w5 vs, RJ w4 w5 cp gf (w4.heap.size + 1) w4.heap.size b fl vs (cl.getD (byteAt bb 1) 0 :: st) cl → RJX b ins fl cp gf w4 w5 A Ru St (a + 2) (q + 1) vs) := fun w5 vs h => ⟨C, t, kq, _, cl, f', hG, by rw [g3, hpl], g5, h⟩
  have HP : Hid _ := @RJ.push w4 wr
  have HJ : Hid _ := hJ
  clear hJ hS hstop hstep g1 g2 g3 g4 g5 hG hab hxo t3
  generalize byteAt bb 1 = c1 at *
  generalize cl.getD c1 0 = vv at *
  go_wp2_with (first | (at_builtin; go_must (refine wpList_append_lies _ (by rfl) _ _ 116 (by rfl) 0 2 i0 (.int .i64 0) 1 8 Tryz.underlying116 hi hz0 hz1 hz2 (by rfl) (by decide) _ _ _ (by rfl) (HR.out.alloc _) ⟨wr.heap.size, 0, none⟩ 1 1 [.int .i64 vv] (by rfl) (by rfl) (World.news_of_block (heap_alloc_new wr _)) (fun x hx => by simp at hx; rcases hx with rfl; rfl) (by decide) (by unfold maxLen; omega) (by omega) (by simp) _ rfl ?_); intro gg cap' w5 hown3 hgrow hat hlt3))
  refine ⟨?_, by have := HA.out; simp [JMu, intOf]; omega⟩
  unfold JI
  refine ⟨_, _, _, _, _, _, _, _, _, _, _, _, _, _, _, _, _, _, _, _, _, _, _, _, _, _, _, _, _, _, _, _, _, _, _, _, _, _, _, _, _, _, _, _, _, _, _, _, _, _, _, _, _, _, _, _, _, _, _, _, _, _, _, _, _, _, _, _, _, _, _, _, _, _, _, _, _, _, _, _, _, _, _, _, _, _, _, _, _, _, _, _, _, _, _, _, _, _, _, _, _, _, _, _, _, _, _, _, _, _, _, _, _, _, _, _, _, _, _, _, _, _, _, _, _, _, _, _, _, _, _, _, _, _, _, _, _, _, _, _, _, _, _, _, _, _, _, _, _, _, _, _, _, _, _, _, _, _, _, _, _, _, _, _, _, _, _, _, _, _, _, _, _, _, _, _, _, _, _, _, _, _, _, _, _, _, _, _, _, _, _, _, _, _, _, _, _, _, _, _, _, _, _, _, _, _, _, _, _, _, _, _, _, ?_, rfl⟩
  exact ⟨a + 2, q + 1, by go_num, by go_num, HN.out _ _ (HJ.out.push _ hown3 hgrow hat)⟩
end Go.Proofs.YtfkdailfcmnjlaaGreatDoor
