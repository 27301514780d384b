/-
  Conditions made of those there are: the two that are taken of a row. The law of plain forms, from what 'written' answers. What a scene tells is what its event and its state tell.
-/
import Derived.Test.YtfkdailfcmnjlaaGreatDoorTells01
import Derived.Test.YtfkdailfcmnjlaaGreatDoorTells02
import Derived.Test.YtfkdailfcmnjlaaGreatDoorTells03
import Derived.Test.YtfkdailfcmnjlaaGreatDoorTells04
import Derived.Test.YtfkdailfcmnjlaaGreatDoorTells05
import Derived.Test.YtfkdailfcmnjlaaGreatDoorTells06
import Derived.Test.YtfkdailfcmnjlaaGreatDoorTells07
import Derived.Test.YtfkdailfcmnjlaaGreatDoorTells08
import Derived.Test.YtfkdailfcmnjlaaGreatDoorTells09
import Derived.Test.YtfkdailfcmnjlaaGreatDoorTells10
import Derived.Test.YtfkdailfcmnjlaaGreatDoorTells11
import Derived.Test.YtfkdailfcmnjlaaGreatDoorTells12
import Derived.Test.YtfkdailfcmnjlaaGreatDoorTells13
import Derived.Test.YtfkdailfcmnjlaaGreatDoorTells14
import Derived.Test.YtfkdailfcmnjlaaGreatDoorTells15
import Derived.Test.YtfkdailfcmnjlaaGreatDoorTells16
import Derived.Test.YtfkdailfcmnjlaaGreatDoorTells17
import Derived.Test.YtfkdailfcmnjlaaGreatDoorTells18
import Derived.Test.YtfkdailfcmnjlaaGreatDoorTells19
import Derived.Test.YtfkdailfcmnjlaaGreatDoorTells20
import Derived.Test.YtfkdailfcmnjlaaGreatDoorTells21
import Derived.Test.YtfkdailfcmnjlaaGreatDoorTells22
import Derived.Test.YtfkdailfcmnjlaaGreatDoorTells23
import Derived.Test.YtfkdailfcmnjlaaGreatDoorTells24
import Derived.Test.YtfkdailfcmnjlaaGreatDoorTells25
import Derived.Test.YtfkdailfcmnjlaaGreatDoorTells26
import Derived.Test.YtfkdailfcmnjlaaGreatDoorTells27
import Derived.Test.YtfkdailfcmnjlaaGreatDoorTells28
import Derived.Test.YtfkdailfcmnjlaaGreatDoorTells29
import Derived.Test.YtfkdailfcmnjlaaGreatDoorTells30
import Derived.Test.YtfkdailfcmnjlaaGreatDoorLays
import Derived.Test.YtfkdailfcmnjlaaGreatDoorLays2
import Derived.WalkKit
import Derived.Deep.QuietTactic
import Derived.BigQuiet
import Derived.WalkSpells
import GoSem.Op.String
import Derived.Deep.AppendLies
import Derived.Deep.RegionHeld3
import Derived.Deep.DrawnRows
import Derived.Deep.RegionHeldLaw
import Derived.Deep.RegionLaw
import Derived.Lib.ParseIntBCases
import Derived.Deep.OwnRows
import Derived.Lib.LaidTab
import Derived.Lib.AppendIntMem
import Derived.Shelf.Strings.Builder1
import Derived.Laws.CopyOwn
import Derived.Deep.DeepCutAuto
import Derived.WalkSmall
import Derived.Lib.AppendZerosOnto
import Derived.Shelf.Abstract
set_option linter.unusedVariables false
set_option linter.unusedSimpArgs false
namespace Go.Proofs.YtfkdailfcmnjlaaGreatDoor
open Go Go.RowKit
set_option maxRecDepth 100000
attribute [local go_sem ↓] Go.wp_at_zero Go.wp_at_succ

set_option maxHeartbeats 8000000 in
set_option maxRecDepth 1000000 in
theorem take_6 {p gz : Nat} {w0 : World} {V : Value} {n : Int} {o A0 B0 : Mk} (c1 c2 c4 c5 c6 c7 c8 c9 c11 c12 c13 c14 c15 c16 c17 c18 c19 c20 c21 c22 c23 c24 c25 c26 c27 c28 c29 c30 c31 c32 c33 c34 c35 c36 c37 c38 c39 c40 c41 c42 c43 c44 c45 c46 c47 c48 c49 c50 c51 c52 c53 c54 c55 c56 c57 c58 c59 c60 c61 c62 c63 c64 c65 c66 c67 c68 c69 c70 c71 c72 c73 c74 c75 c76 c77 c78 c79 c80 c81 c82 c83 c84 c85 c86 c87 c88 c89 c90 c91 c92 c93 c94 c95 c96 c97 c98 c99 c100 c101 c102 c103 c104 c105 c106 c107 c108 c109 c110 c111 c112 c113 c114 c115 c116 c117 c118 c119 c120 c121 c122 c123 c124 c125 c126 c127 c128 c129 c130 c131 c132 c133 c134 c135 c136 c137 c138 c139 c140 c141 c142 c143 c144 c145 c146 c147 c148 c149 c150 c151 c152 c153 c154 c155 c156 c157 c158 c159 c160 c161 c162 c163 c164 c165 c166 c167 c168 c169 c170 c171 c172 c173 c174 c175 c176 c177 c178 c179 c180 c181 c182 c183 c184 c185 c186 c187 c188 c189 c190 c191 c192 c193 c194 c195 c196 c197 c198 c199 c200 c201 c202 c203 c204 c205 c206 c207 c208 c209 c210 c211 c212 c213 c214 c215 c216 c217 c218 c219 c220 c221 c222 c223 c224 : Value) (hn3 : In64 (n.tdiv 3)) (hz : MkAt w0 gz o) (ht : w0.cell? ⟨p, 2, none⟩ = some V)
    (WA : ∀ W, Below w0.heap.size w0 W → Calls Tryz.prog 72 #[V, .int .i64 n, mkV o] W fun e w' => e = .returned (mkV A0) ∧ w' = (W.alloc (mkO o)).alloc (mkO A0))
    (WB : ∀ W, Below w0.heap.size w0 W → Calls Tryz.prog 72 #[V, .int .i64 (n.tdiv 3), mkV o] W fun e w' => e = .returned (mkV B0) ∧ w' = (W.alloc (mkO o)).alloc (mkO B0)) :
    Code.wp Tryz.prog ((Tryz.f38.body.bind (regIn 6)).getD .skip) (JN (fun a' w' => ∃ (ga gb : Nat) (u51 u52 u53 u54 u55 u56 u57 u58 u59 u60 u61 u62 u63 u64 u65 : Value), a' = ⟨#[.pointer (some ⟨p, 0, none⟩), c1, c2, .int .i64 n, c4, c5, c6, c7, c8, c9, .pointer (some ⟨gz, 0, none⟩), c11, c12, c13, c14, .pointer (some ⟨ga, 0, none⟩), .pointer (some ⟨gb, 0, none⟩), c17, c18, c19, c20, c21, c22, c23, c24, c25, c26, c27, c28, c29, c30, c31, c32, c33, c34, c35, c36, c37, c38, c39, c40, c41, c42, c43, c44, c45, c46, c47, c48, c49, c50, u51, u52, u53, u54, u55, u56, u57, u58, u59, u60, u61, u62, u63, u64, u65, c66, c67, c68, c69, c70, c71, c72, c73, c74, c75, c76, c77, c78, c79, c80, c81, c82, c83, c84, c85, c86, c87, c88, c89, c90, c91, c92, c93, c94, c95, c96, c97, c98, c99, c100, c101, c102, c103, c104, c105, c106, c107, c108, c109, c110, c111, c112, c113, c114, c115, c116, c117, c118, c119, c120, c121, c122, c123, c124, c125, c126, c127, c128, c129, c130, c131, c132, c133, c134, c135, c136, c137, c138, c139, c140, c141, c142, c143, c144, c145, c146, c147, c148, c149, c150, c151, c152, c153, c154, c155, c156, c157, c158, c159, c160, c161, c162, c163, c164, c165, c166, c167, c168, c169, c170, c171, c172, c173, c174, c175, c176, c177, c178, c179, c180, c181, c182, c183, c184, c185, c186, c187, c188, c189, c190, c191, c192, c193, c194, c195, c196, c197, c198, c199, c200, c201, c202, c203, c204, c205, c206, c207, c208, c209, c210, c211, c212, c213, c214, c215, c216, c217, c218, c219, c220, c221, c222, c223, c224], []⟩ ∧ MkAt w' ga A0 ∧ MkAt w' gb B0 ∧ Below w0.heap.size w0 w')) ⟨#[.pointer (some ⟨p, 0, none⟩), c1, c2, .int .i64 n, c4, c5, c6, c7, c8, c9, .pointer (some ⟨gz, 0, none⟩), c11, c12, c13, c14, c15, c16, c17, c18, c19, c20, c21, c22, c23, c24, c25, c26, c27, c28, c29, c30, c31, c32, c33, c34, c35, c36, c37, c38, c39, c40, c41, c42, c43, c44, c45, c46, c47, c48, c49, c50, c51, c52, c53, c54, c55, c56, c57, c58, c59, c60, c61, c62, c63, c64, c65, c66, c67, c68, c69, c70, c71, c72, c73, c74, c75, c76, c77, c78, c79, c80, c81, c82, c83, c84, c85, c86, c87, c88, c89, c90, c91, c92, c93, c94, c95, c96, c97, c98, c99, c100, c101, c102, c103, c104, c105, c106, c107, c108, c109, c110, c111, c112, c113, c114, c115, c116, c117, c118, c119, c120, c121, c122, c123, c124, c125, c126, c127, c128, c129, c130, c131, c132, c133, c134, c135, c136, c137, c138, c139, c140, c141, c142, c143, c144, c145, c146, c147, c148, c149, c150, c151, c152, c153, c154, c155, c156, c157, c158, c159, c160, c161, c162, c163, c164, c165, c166, c167, c168, c169, c170, c171, c172, c173, c174, c175, c176, c177, c178, c179, c180, c181, c182, c183, c184, c185, c186, c187, c188, c189, c190, c191, c192, c193, c194, c195, c196, c197, c198, c199, c200, c201, c202, c203, c204, c205, c206, c207, c208, c209, c210, c211, c212, c213, c214, c215, c216, c217, c218, c219, c220, c221, c222, c223, c224], []⟩ w0 := by
  have hp0 : p < w0.heap.size := World.block_lt_of_cell? w0 _ ht
  have hz0 : gz < w0.heap.size := lt_of_get hz
  have hS0 : Below w0.heap.size w0 w0 := Below.refl _ _
  have E0 : ∀ W, Below w0.heap.size w0 W → W.cell? ⟨p, 2, none⟩ = some V := fun W h => by rw [h.cell (p := ⟨p, 2, none⟩) hp0]; exact ht
  have Z0 : ∀ W, Below w0.heap.size w0 W → W.cell? ⟨gz, 0, none⟩ = some (S o.text) := fun W h => by rw [h.cell (p := ⟨gz, 0, none⟩) hz0]; exact cell_of_row w0 _ 0 _ _ _ hz
  have Z1 : ∀ W, Below w0.heap.size w0 W → W.cell? ⟨gz, 1, none⟩ = some (S o.bare) := fun W h => by rw [h.cell (p := ⟨gz, 1, none⟩) hz0]; exact cell_of_row w0 _ 1 _ _ _ hz
  have Z2 : ∀ W, Below w0.heap.size w0 W → W.cell? ⟨gz, 2, none⟩ = some (.int .i64 o.told) := fun W h => by rw [h.cell (p := ⟨gz, 2, none⟩) hz0]; exact cell_of_row w0 _ 2 _ _ _ hz
  have Z3 : ∀ W, Below w0.heap.size w0 W → W.cell? ⟨gz, 3, none⟩ = some (.int .i64 (o.deep : Nat)) := fun W h => by rw [h.cell (p := ⟨gz, 3, none⟩) hz0]; exact cell_of_row w0 _ 3 _ _ _ hz
  have KD : Hid (∀ W : World, Below w0.heap.size w0 W → Below w0.heap.size w0 W.drew) := fun W h => h.drew
  have KA : Hid (∀ (W : World) (o : Obj), Below w0.heap.size w0 W → Below w0.heap.size w0 (W.alloc o)) := fun W o h => h.alloc h.size _
  have KS : Hid (∀ (W : World) (a : Addr) (u : Value), w0.heap.size ≤ a.block → Below w0.heap.size w0 W → Below w0.heap.size w0 (W.setCell a u)) := fun W a u h h' => h'.setCell h _
  have hq3 : IntKind.i64.wrap (n.tdiv 3) = n.tdiv 3 := by unfold In64 at hn3; rw [IntKind.wrap_i64]; omega
  unfold mkV at WA WB
  clear hz ht
  conv => arg 2; whnf
  go_region_held3 (fun W => Below w0.heap.size w0 W) (first | assumption | (repeat' first | exact hS0 | with_reducible assumption | with_reducible apply KD.out | with_reducible apply KA.out | (with_reducible refine KS.out _ _ _ (by simp; omega) ?_)))
    (first
      | (go_at_call 72; (first | with_reducible refine Calls.mono (WA _ (by assumption)) ?_ | with_reducible refine Calls.mono (WB _ (by assumption)) ?_); rintro e w' ⟨rfl, rfl⟩))
  all_goals
    rename_i hHeld
    exact ⟨_, _, _, _, _, _, _, _, _, _, _, _, _, _, _, _, _, rfl, mk_drew (by repeat' first | (refine mk_new ?_; simp; done) | refine mk_old ?_), mk_drew (by repeat' first | (refine mk_new ?_; simp; done) | refine mk_old ?_), hHeld⟩
end Go.Proofs.YtfkdailfcmnjlaaGreatDoor

namespace Go.Proofs.YtfkdailfcmnjlaaGreatDoor
open Go Go.RowKit
set_option maxRecDepth 100000
attribute [local go_sem ↓] Go.wp_at_zero Go.wp_at_succ loadAt_sc

/-- What 'written' answers. -/
def WrittenOut (c : Scn) (w : World) (e : Ending) (w' : World) : Prop := ∃ q : List (Mk × Bool), Good3 (scF c) q ∧ q.length ≤ 3 ∧ e = .returned (.agg #[S (textW q), S (bareW q), .bool (saysW q 0).1, .int .i64 ((saysW q 0).2 : Nat), .int .i64 0]) ∧ Below w.heap.size w w'
theorem wr_len {c : Scn} {q : List (Mk × Bool)} (hq : Good3 (scF c) q) (hl : q.length ≤ 3) : (textW q).length ≤ maxLen ∧ (bareW q).length ≤ maxLen := by
  cases q with
  | nil => exact ⟨Nat.zero_le _, Nat.zero_le _⟩
  | cons r q =>
    obtain ⟨k1, k2⟩ := textR_len (fl := scF c) q (fun r hr => hq r (by simp [hr]))
    have hm := hq r (by simp)
    have ht := hm.text
    have hb := hm.bare
    have ha : (headA r.2).length ≤ 9 := by cases r.2 <;> decide
    simp at hl
    unfold maxLen
    constructor
    · simp [textW, wsLet, wFirst, wsEq]; omega
    · simp [bareW, wsLet, wFirst]; omega
end Go.Proofs.YtfkdailfcmnjlaaGreatDoor

namespace Go.Proofs.YtfkdailfcmnjlaaGreatDoor
open Go Go.RowKit
set_option maxRecDepth 100000

theorem pick3_012 : pick3 ((0 : Nat) : Int) = 0 ∧ pick3 ((1 : Nat) : Int) = 1 ∧ pick3 ((2 : Nat) : Int) = 2 ∧ pick3 (2 * ((0 : Nat) : Int)) = 0 ∧ pick3 (2 * ((1 : Nat) : Int)) = 2 := by decide
theorem scF_fields (c : Scn) : fieldsL (scEv c) (scSt c) = scF c := by
  obtain ⟨p0, p1, p2, p3, p4⟩ := pick3_012
  have hs := pick3_lt c.sn
  have ht := pick3_lt c.tg
  unfold fieldsL scF scEv scSt lvV isV
  simp only []
  have key : ∀ n, pick3 n < 3 → firstI c.df (lv2 c 2) (userL n) = (if abA c (pick3 n) = false then lvA c (pick3 n) else if pick3 n ≠ 1 then 77 else c.df) ∧ firstK (mb2 c 2) (userL n) = (if abA c (pick3 n) = false then knownI (isA c (pick3 n)) else if pick3 n ≠ 1 then 4 else 0) := by
    intro n hn
    have h3 : pick3 n = 0 ∨ pick3 n = 1 ∨ pick3 n = 2 := by omega
    have u : userL n = [[97], [98], []].getD (pick3 n) [] := rfl
    simp only [lv2, lvl, mb2, mbl]
    have u0 : userL ((0 : Nat) : Int) = [97] := by decide
    have u1 : userL ((1 : Nat) : Int) = [98] := by decide
    have u2 : userL ((2 : Nat) : Int) = [] := by decide
    have u3 : userL (2 * ((0 : Nat) : Int)) = [97] := by decide
    have u4 : userL (2 * ((1 : Nat) : Int)) = [] := by decide
    rw [u0, u1, u2, u3, u4, u]
    unfold abA lvA isA
    rcases h3 with e | e | e <;> rw [e] <;> cases c.a0 <;> cases c.a1 <;> cases c.a2 <;> simp [firstI, firstK, knownI]
  rw [(key c.sn hs).1, (key c.tg ht).1, (key c.sn hs).2, (key c.tg ht).2]
  have hu : (userL c.sn == userL c.tg) = (pick3 c.sn == pick3 c.tg) := by
    unfold userL
    have h3 : pick3 c.sn = 0 ∨ pick3 c.sn = 1 ∨ pick3 c.sn = 2 := by omega
    have h4 : pick3 c.tg = 0 ∨ pick3 c.tg = 1 ∨ pick3 c.tg = 2 := by omega
    rcases h3 with e | e | e <;> rcases h4 with e' | e' | e' <;> rw [e, e'] <;> decide
  rw [hu]
end Go.Proofs.YtfkdailfcmnjlaaGreatDoor
