/-
  Conditions made of those there are: one that is too deep or too long is left. Conditions made of those there are: a number more. Conditions made of those there are: a truth more. Conditions made of those there are, whole. The first loop of 'written': conditions made by raw numbers. The second loop of 'written': the pieces of a round.
-/
import Derived.Test.YtfkdailfcmnjlaaGreatDoorTells01
import Derived.Test.YtfkdailfcmnjlaaGreatDoorTells02
import Derived.Test.YtfkdailfcmnjlaaGreatDoorTells03
import Derived.Test.YtfkdailfcmnjlaaGreatDoorTells04
import Derived.Test.YtfkdailfcmnjlaaGreatDoorTells05
import Derived.Test.YtfkdailfcmnjlaaGreatDoorTells06
import Derived.Test.YtfkdailfcmnjlaaGreatDoorTells07
import Derived.Test.YtfkdailfcmnjlaaGreatDoorTells08
import Derived.Test.YtfkdailfcmnjlaaGreatDoorTells09
import Derived.Test.YtfkdailfcmnjlaaGreatDoorTells10
import Derived.Test.YtfkdailfcmnjlaaGreatDoorTells11
import Derived.Test.YtfkdailfcmnjlaaGreatDoorTells12
import Derived.Test.YtfkdailfcmnjlaaGreatDoorTells13
import Derived.Test.YtfkdailfcmnjlaaGreatDoorTells14
import Derived.Test.YtfkdailfcmnjlaaGreatDoorTells15
import Derived.Test.YtfkdailfcmnjlaaGreatDoorTells16
import Derived.Test.YtfkdailfcmnjlaaGreatDoorTells17
import Derived.Test.YtfkdailfcmnjlaaGreatDoorTells18
import Derived.Test.YtfkdailfcmnjlaaGreatDoorTells19
import Derived.Test.YtfkdailfcmnjlaaGreatDoorTells20
import Derived.Test.YtfkdailfcmnjlaaGreatDoorTells21
import Derived.Test.YtfkdailfcmnjlaaGreatDoorTells22
import Derived.Test.YtfkdailfcmnjlaaGreatDoorTells23
import Derived.Test.YtfkdailfcmnjlaaGreatDoorTells24
import Derived.Test.YtfkdailfcmnjlaaGreatDoorTells25
import Derived.Test.YtfkdailfcmnjlaaGreatDoorTells26
import Derived.Test.YtfkdailfcmnjlaaGreatDoorTells27
import Derived.Test.YtfkdailfcmnjlaaGreatDoorTells28
import Derived.Test.YtfkdailfcmnjlaaGreatDoorTells29
import Derived.Test.YtfkdailfcmnjlaaGreatDoorTells30
import Derived.Test.YtfkdailfcmnjlaaGreatDoorTells31
import Derived.Test.YtfkdailfcmnjlaaGreatDoorTells32
import Derived.Test.YtfkdailfcmnjlaaGreatDoorTells33
import Derived.Test.YtfkdailfcmnjlaaGreatDoorLays
import Derived.Test.YtfkdailfcmnjlaaGreatDoorLays2
import Derived.Deep.CutBlock
import Derived.WalkKit
import Derived.Deep.QuietTactic
import Derived.BigQuiet
import Derived.WalkSpells
import GoSem.Op.String
import Derived.Deep.AppendLies
import Derived.Deep.RegionHeld3
import Derived.Deep.DrawnRows
import Derived.Deep.RegionHeldLaw
import Derived.Deep.RegionLaw
import Derived.Lib.ParseIntBCases
import Derived.Deep.OwnRows
import Derived.Lib.LaidTab
import Derived.Lib.AppendIntMem
import Derived.Shelf.Strings.Builder1
import Derived.Laws.CopyOwn
import Derived.Deep.DeepCutAuto
import Derived.WalkSmall
import Derived.Lib.AppendZerosOnto
import Derived.Shelf.Abstract
set_option linter.unusedVariables false
set_option linter.unusedSimpArgs false
namespace Go.Proofs.YtfkdailfcmnjlaaGreatDoor
open Go Go.RowKit
set_option maxRecDepth 100000
attribute [local go_sem ↓] Go.wp_at_zero Go.wp_at_succ

/-- What stands behind so many pieces of a code. -/
def behindN : Nat → Code → Code
  | 0, c => c
  | n + 1, .seq _ b => behindN n b
  | _, c => c
/-- A post that wants an end, plain or by a return. -/
def JR (R : World → Prop) : Exit → Act → World → Prop
  | .normal, a, w => a.defers = [] ∧ R w
  | .ret, a, w => a.defers = [] ∧ R w
  | _, _, _ => False
theorem wp_take {P : Program} {c : Code} {R : Act → World → Prop} {Q : Exit → Act → World → Prop} {a : Act} {w : World} (h : Code.wp P c (JN R) a w) (hn : ∀ a' w', R a' w' → Q .normal a' w') : Code.wp P c Q a w :=
  wp_mono h (fun e a' w' hq => by
    cases e with
    | normal => exact hn _ _ hq
    | _ => exact hq.elim)
set_option maxHeartbeats 8000000 in
set_option maxRecDepth 1000000 in
theorem tail_no {p gz : Nat} {w0 : World} {r : Mk} {kd : Nat} (c1 c3 c4 c5 c6 c7 c8 c9 c10 c11 c12 c13 c14 c15 c16 c18 c19 c20 c21 c22 c23 c24 c25 c26 c27 c28 c29 c30 c31 c32 c33 c34 c35 c36 c37 c38 c39 c40 c41 c42 c43 c44 c45 c46 c47 c48 c49 c50 c51 c52 c53 c54 c55 c56 c57 c58 c59 c60 c61 c62 c63 c64 c65 c66 c67 c68 c69 c70 c71 c72 c73 c74 c75 c76 c77 c78 c79 c80 c81 c82 c83 c84 c85 c86 c87 c88 c89 c90 c91 c92 c93 c94 c95 c96 c97 c98 c99 c100 c101 c102 c103 c104 c105 c106 c107 c108 c109 c110 c111 c112 c113 c114 c115 c116 c117 c118 c119 c120 c121 c122 c123 c124 c125 c126 c127 c128 c129 c130 c131 c132 c133 c134 c135 c136 c137 c138 c139 c140 c141 c142 c143 c144 c145 c146 c147 c148 c149 c150 c151 c152 c153 c154 c155 c156 c157 c158 c159 c160 c161 c162 c163 c164 c165 c166 c167 c168 c169 c170 c171 c172 c173 c174 c175 c176 c177 c178 c179 c180 c181 c182 c183 c184 c185 c186 c187 c188 c189 c190 c191 c192 c193 c194 c195 c196 c197 c198 c199 c200 c201 c202 c203 c204 c205 c206 c207 c208 c209 c210 c211 c212 c213 c214 c215 c216 c217 c218 c219 c220 c221 c222 c223 c224 : Value) (hz : MkAt w0 gz r) (hs : r.text.length ≤ 100000 ∧ r.bare.length ≤ 100000 ∧ r.deep ≤ 100000) (hbad : ¬ (r.deep ≤ 12 ∧ r.bare.length ≤ 140 ∧ r.text.length ≤ 140)) :
    Code.wp Tryz.prog ((Tryz.f38.body.map (behindN 9)).getD .skip) (JR (fun w' => w' = w0)) ⟨#[.pointer (some ⟨p, 0, none⟩), c1, .int .i64 kd, c3, c4, c5, c6, c7, c8, c9, c10, c11, c12, c13, c14, c15, c16, .pointer (some ⟨gz, 0, none⟩), c18, c19, c20, c21, c22, c23, c24, c25, c26, c27, c28, c29, c30, c31, c32, c33, c34, c35, c36, c37, c38, c39, c40, c41, c42, c43, c44, c45, c46, c47, c48, c49, c50, c51, c52, c53, c54, c55, c56, c57, c58, c59, c60, c61, c62, c63, c64, c65, c66, c67, c68, c69, c70, c71, c72, c73, c74, c75, c76, c77, c78, c79, c80, c81, c82, c83, c84, c85, c86, c87, c88, c89, c90, c91, c92, c93, c94, c95, c96, c97, c98, c99, c100, c101, c102, c103, c104, c105, c106, c107, c108, c109, c110, c111, c112, c113, c114, c115, c116, c117, c118, c119, c120, c121, c122, c123, c124, c125, c126, c127, c128, c129, c130, c131, c132, c133, c134, c135, c136, c137, c138, c139, c140, c141, c142, c143, c144, c145, c146, c147, c148, c149, c150, c151, c152, c153, c154, c155, c156, c157, c158, c159, c160, c161, c162, c163, c164, c165, c166, c167, c168, c169, c170, c171, c172, c173, c174, c175, c176, c177, c178, c179, c180, c181, c182, c183, c184, c185, c186, c187, c188, c189, c190, c191, c192, c193, c194, c195, c196, c197, c198, c199, c200, c201, c202, c203, c204, c205, c206, c207, c208, c209, c210, c211, c212, c213, c214, c215, c216, c217, c218, c219, c220, c221, c222, c223, c224], []⟩ w0 := by
  obtain ⟨z0, z1, z2, z3⟩ := mk_cells hz
  obtain ⟨s1, s2, s3⟩ := hs
  clear hz
  by_cases h1 : r.deep ≤ 12
  · have i1 : ¬ (12 : Int) < (r.deep : Int) := by omega
    by_cases h2 : r.bare.length ≤ 140
    · have i2 : ¬ (140 : Int) < (r.bare.length : Int) := by omega
      have i3 : (140 : Int) < (r.text.length : Int) := by omega
      clear hbad h1 h2
      conv => arg 2; whnf
      go_wp2_with fail
      exact ⟨rfl, rfl⟩
    · have i2 : (140 : Int) < (r.bare.length : Int) := by omega
      clear hbad h1 h2
      conv => arg 2; whnf
      go_wp2_with fail
      exact ⟨rfl, rfl⟩
  · have i1 : (12 : Int) < (r.deep : Int) := by omega
    clear hbad h1
    conv => arg 2; whnf
    go_wp2_with fail
    exact ⟨rfl, rfl⟩
end Go.Proofs.YtfkdailfcmnjlaaGreatDoor

namespace Go.Proofs.YtfkdailfcmnjlaaGreatDoor
open Go Go.RowKit
set_option maxRecDepth 100000
attribute [local go_sem ↓] Go.wp_at_zero Go.wp_at_succ

set_option maxHeartbeats 8000000 in
set_option maxRecDepth 1000000 in
theorem tail_0 {b p gz : Nat} {w w0 : World} {v : Nat → Value} {l : Nat → List Mk} {r : Mk} {kd : Nat} (c1 c3 c4 c5 c6 c7 c8 c9 c10 c11 c12 c13 c14 c15 c16 c18 c19 c20 c21 c22 c23 c24 c25 c26 c27 c28 c29 c30 c31 c32 c33 c34 c35 c36 c37 c38 c39 c40 c41 c42 c43 c44 c45 c46 c47 c48 c49 c50 c51 c52 c53 c54 c55 c56 c57 c58 c59 c60 c61 c62 c63 c64 c65 c66 c67 c68 c69 c70 c71 c72 c73 c74 c75 c76 c77 c78 c79 c80 c81 c82 c83 c84 c85 c86 c87 c88 c89 c90 c91 c92 c93 c94 c95 c96 c97 c98 c99 c100 c101 c102 c103 c104 c105 c106 c107 c108 c109 c110 c111 c112 c113 c114 c115 c116 c117 c118 c119 c120 c121 c122 c123 c124 c125 c126 c127 c128 c129 c130 c131 c132 c133 c134 c135 c136 c137 c138 c139 c140 c141 c142 c143 c144 c145 c146 c147 c148 c149 c150 c151 c152 c153 c154 c155 c156 c157 c158 c159 c160 c161 c162 c163 c164 c165 c166 c167 c168 c169 c170 c171 c172 c173 c174 c175 c176 c177 c178 c179 c180 c181 c182 c183 c184 c185 c186 c187 c188 c189 c190 c191 c192 c193 c194 c195 c196 c197 c198 c199 c200 c201 c202 c203 c204 c205 c206 c207 c208 c209 c210 c211 c212 c213 c214 c215 c216 c217 c218 c219 c220 c221 c222 c223 c224 : Value) (hk : kd = 0 ∨ kd = 1 ∨ kd = 9) (hT : TI b w p v l) (hb : b ≤ w.heap.size) (hB : Below w.heap.size w w0) (hz : MkAt w0 gz r) (hl : (l 0).length ≤ 1000) (h1 : r.deep ≤ 12) (h2 : r.bare.length ≤ 140) (h3 : r.text.length ≤ 140) :
    Code.wp Tryz.prog ((Tryz.f38.body.map (behindN 9)).getD .skip) (JR (fun w' => ∃ v', TI b w' p v' (upd l 0 (l 0 ++ [r])) ∧ Below b w w')) ⟨#[.pointer (some ⟨p, 0, none⟩), c1, .int .i64 kd, c3, c4, c5, c6, c7, c8, c9, c10, c11, c12, c13, c14, c15, c16, .pointer (some ⟨gz, 0, none⟩), c18, c19, c20, c21, c22, c23, c24, c25, c26, c27, c28, c29, c30, c31, c32, c33, c34, c35, c36, c37, c38, c39, c40, c41, c42, c43, c44, c45, c46, c47, c48, c49, c50, c51, c52, c53, c54, c55, c56, c57, c58, c59, c60, c61, c62, c63, c64, c65, c66, c67, c68, c69, c70, c71, c72, c73, c74, c75, c76, c77, c78, c79, c80, c81, c82, c83, c84, c85, c86, c87, c88, c89, c90, c91, c92, c93, c94, c95, c96, c97, c98, c99, c100, c101, c102, c103, c104, c105, c106, c107, c108, c109, c110, c111, c112, c113, c114, c115, c116, c117, c118, c119, c120, c121, c122, c123, c124, c125, c126, c127, c128, c129, c130, c131, c132, c133, c134, c135, c136, c137, c138, c139, c140, c141, c142, c143, c144, c145, c146, c147, c148, c149, c150, c151, c152, c153, c154, c155, c156, c157, c158, c159, c160, c161, c162, c163, c164, c165, c166, c167, c168, c169, c170, c171, c172, c173, c174, c175, c176, c177, c178, c179, c180, c181, c182, c183, c184, c185, c186, c187, c188, c189, c190, c191, c192, c193, c194, c195, c196, c197, c198, c199, c200, c201, c202, c203, c204, c205, c206, c207, c208, c209, c210, c211, c212, c213, c214, c215, c216, c217, c218, c219, c220, c221, c222, c223, c224], []⟩ w0 := by
  have hwb : b ≤ w0.heap.size := by have := hB.size; omega
  have n1 : ¬ (12 : Int) < (r.deep : Int) := by omega
  have n2 : ¬ (140 : Int) < (r.bare.length : Int) := by omega
  have n3 : ¬ (140 : Int) < (r.text.length : Int) := by omega
  obtain ⟨z0, z1, z2, z3⟩ := mk_cells hz
  rcases hk with rfl | rfl | rfl
  · conv => arg 2; whnf
    go_upto_region 30 with fail
    obtain ⟨va, vc, hA⟩ := hT.ready hb hB.drew (j := 0) (by decide)
    have t0 : w0.cell? ⟨p, 0, none⟩ = some (.slice va (l 0).length vc) := hA.cell
    have pa : p < w0.heap.size := World.block_lt_of_cell? w0 _ t0
    have pb : p ≠ w0.heap.size := by omega
    have pc : w0.heap.size ≠ p := by omega
    obtain ⟨x0, x1, x2, x3⟩ := mk_cells hz
    have HA : Hid _ := hA
    obtain ⟨i0, hi, hz3⟩ := Option.map_eq_some_iff.1 info_made
    simp only [Prod.mk.injEq] at hz3
    obtain ⟨hz0, hz1, hz2⟩ := hz3
    clear hA hT hB hz
    go_region_law (first
      | (refine step_append_lies _ (by rfl) _ _ _ (by rfl) b 104 i0 _ 4 48 Tryz.underlying98 hi hz0 hz1 hz2 (by rfl) (by decide) (.slice va (l 0).length vc) (l 0).length ((l 0).flatMap mkC) (by rfl) (World.ownsRow.alloc HA.out.row _) ⟨w0.heap.size, 0, none⟩ 1 1 [S r.text, S r.bare, .int .i64 r.told, .int .i64 (r.deep : Nat)] (by rfl) (by rfl) (World.news_of_block (heap_alloc_new w0.drew _)) (fun x hx => by simp at hx; rcases hx with rfl | rfl | rfl | rfl <;> rfl) (by decide) (by unfold maxLen; omega) (by omega) (by simp; omega) (w0.heap.size + 1) (by simp) ?_; intro gg cap' w5 hown3 hgrow hat hlt3; obtain ⟨y0, yf0⟩ := HA.out.far _ _ hgrow; have HN : Hid _ := HA.out.put _ r _ _ _ hgrow (by rcases hat with h | h; exact .inl h; right; rw [h, World.size_alloc]; rfl) hown3; clear hown3 hgrow hat))
    all_goals
      go_wp2_with fail
      obtain ⟨⟨v', h1⟩, h2⟩ := HN.out
      first | exact ⟨rfl, v', h1, h2⟩ | exact ⟨rfl, ⟨v', h1⟩, h2⟩
  · conv => arg 2; whnf
    go_upto_region 30 with fail
    obtain ⟨va, vc, hA⟩ := hT.ready hb hB.drew (j := 0) (by decide)
    have t0 : w0.cell? ⟨p, 0, none⟩ = some (.slice va (l 0).length vc) := hA.cell
    have pa : p < w0.heap.size := World.block_lt_of_cell? w0 _ t0
    have pb : p ≠ w0.heap.size := by omega
    have pc : w0.heap.size ≠ p := by omega
    obtain ⟨x0, x1, x2, x3⟩ := mk_cells hz
    have HA : Hid _ := hA
    obtain ⟨i0, hi, hz3⟩ := Option.map_eq_some_iff.1 info_made
    simp only [Prod.mk.injEq] at hz3
    obtain ⟨hz0, hz1, hz2⟩ := hz3
    clear hA hT hB hz
    go_region_law (first
      | (refine step_append_lies _ (by rfl) _ _ _ (by rfl) b 104 i0 _ 4 48 Tryz.underlying98 hi hz0 hz1 hz2 (by rfl) (by decide) (.slice va (l 0).length vc) (l 0).length ((l 0).flatMap mkC) (by rfl) (World.ownsRow.alloc HA.out.row _) ⟨w0.heap.size, 0, none⟩ 1 1 [S r.text, S r.bare, .int .i64 r.told, .int .i64 (r.deep : Nat)] (by rfl) (by rfl) (World.news_of_block (heap_alloc_new w0.drew _)) (fun x hx => by simp at hx; rcases hx with rfl | rfl | rfl | rfl <;> rfl) (by decide) (by unfold maxLen; omega) (by omega) (by simp; omega) (w0.heap.size + 1) (by simp) ?_; intro gg cap' w5 hown3 hgrow hat hlt3; obtain ⟨y0, yf0⟩ := HA.out.far _ _ hgrow; have HN : Hid _ := HA.out.put _ r _ _ _ hgrow (by rcases hat with h | h; exact .inl h; right; rw [h, World.size_alloc]; rfl) hown3; clear hown3 hgrow hat))
    all_goals
      go_wp2_with fail
      obtain ⟨⟨v', h1⟩, h2⟩ := HN.out
      first | exact ⟨rfl, v', h1, h2⟩ | exact ⟨rfl, ⟨v', h1⟩, h2⟩
  · conv => arg 2; whnf
    go_upto_region 30 with fail
    obtain ⟨va, vc, hA⟩ := hT.ready hb hB.drew (j := 0) (by decide)
    have t0 : w0.cell? ⟨p, 0, none⟩ = some (.slice va (l 0).length vc) := hA.cell
    have pa : p < w0.heap.size := World.block_lt_of_cell? w0 _ t0
    have pb : p ≠ w0.heap.size := by omega
    have pc : w0.heap.size ≠ p := by omega
    obtain ⟨x0, x1, x2, x3⟩ := mk_cells hz
    have HA : Hid _ := hA
    obtain ⟨i0, hi, hz3⟩ := Option.map_eq_some_iff.1 info_made
    simp only [Prod.mk.injEq] at hz3
    obtain ⟨hz0, hz1, hz2⟩ := hz3
    clear hA hT hB hz
    go_region_law (first
      | (refine step_append_lies _ (by rfl) _ _ _ (by rfl) b 104 i0 _ 4 48 Tryz.underlying98 hi hz0 hz1 hz2 (by rfl) (by decide) (.slice va (l 0).length vc) (l 0).length ((l 0).flatMap mkC) (by rfl) (World.ownsRow.alloc HA.out.row _) ⟨w0.heap.size, 0, none⟩ 1 1 [S r.text, S r.bare, .int .i64 r.told, .int .i64 (r.deep : Nat)] (by rfl) (by rfl) (World.news_of_block (heap_alloc_new w0.drew _)) (fun x hx => by simp at hx; rcases hx with rfl | rfl | rfl | rfl <;> rfl) (by decide) (by unfold maxLen; omega) (by omega) (by simp; omega) (w0.heap.size + 1) (by simp) ?_; intro gg cap' w5 hown3 hgrow hat hlt3; obtain ⟨y0, yf0⟩ := HA.out.far _ _ hgrow; have HN : Hid _ := HA.out.put _ r _ _ _ hgrow (by rcases hat with h | h; exact .inl h; right; rw [h, World.size_alloc]; rfl) hown3; clear hown3 hgrow hat))
    all_goals
      go_wp2_with fail
      obtain ⟨⟨v', h1⟩, h2⟩ := HN.out
      first | exact ⟨rfl, v', h1, h2⟩ | exact ⟨rfl, ⟨v', h1⟩, h2⟩
end Go.Proofs.YtfkdailfcmnjlaaGreatDoor

namespace Go.Proofs.YtfkdailfcmnjlaaGreatDoor
open Go Go.RowKit
set_option maxRecDepth 100000
attribute [local go_sem ↓] Go.wp_at_zero Go.wp_at_succ

set_option maxHeartbeats 8000000 in
set_option maxRecDepth 1000000 in
theorem tail_2 {b p gz : Nat} {w w0 : World} {v : Nat → Value} {l : Nat → List Mk} {r : Mk} {kd : Nat} (c1 c3 c4 c5 c6 c7 c8 c9 c10 c11 c12 c13 c14 c15 c16 c18 c19 c20 c21 c22 c23 c24 c25 c26 c27 c28 c29 c30 c31 c32 c33 c34 c35 c36 c37 c38 c39 c40 c41 c42 c43 c44 c45 c46 c47 c48 c49 c50 c51 c52 c53 c54 c55 c56 c57 c58 c59 c60 c61 c62 c63 c64 c65 c66 c67 c68 c69 c70 c71 c72 c73 c74 c75 c76 c77 c78 c79 c80 c81 c82 c83 c84 c85 c86 c87 c88 c89 c90 c91 c92 c93 c94 c95 c96 c97 c98 c99 c100 c101 c102 c103 c104 c105 c106 c107 c108 c109 c110 c111 c112 c113 c114 c115 c116 c117 c118 c119 c120 c121 c122 c123 c124 c125 c126 c127 c128 c129 c130 c131 c132 c133 c134 c135 c136 c137 c138 c139 c140 c141 c142 c143 c144 c145 c146 c147 c148 c149 c150 c151 c152 c153 c154 c155 c156 c157 c158 c159 c160 c161 c162 c163 c164 c165 c166 c167 c168 c169 c170 c171 c172 c173 c174 c175 c176 c177 c178 c179 c180 c181 c182 c183 c184 c185 c186 c187 c188 c189 c190 c191 c192 c193 c194 c195 c196 c197 c198 c199 c200 c201 c202 c203 c204 c205 c206 c207 c208 c209 c210 c211 c212 c213 c214 c215 c216 c217 c218 c219 c220 c221 c222 c223 c224 : Value) (hk : 2 ≤ kd ∧ kd ≤ 8) (hT : TI b w p v l) (hb : b ≤ w.heap.size) (hB : Below w.heap.size w w0) (hz : MkAt w0 gz r) (hl : (l 2).length ≤ 1000) (h1 : r.deep ≤ 12) (h2 : r.bare.length ≤ 140) (h3 : r.text.length ≤ 140) :
    Code.wp Tryz.prog ((Tryz.f38.body.map (behindN 9)).getD .skip) (JR (fun w' => ∃ v', TI b w' p v' (upd l 2 (l 2 ++ [r])) ∧ Below b w w')) ⟨#[.pointer (some ⟨p, 0, none⟩), c1, .int .i64 kd, c3, c4, c5, c6, c7, c8, c9, c10, c11, c12, c13, c14, c15, c16, .pointer (some ⟨gz, 0, none⟩), c18, c19, c20, c21, c22, c23, c24, c25, c26, c27, c28, c29, c30, c31, c32, c33, c34, c35, c36, c37, c38, c39, c40, c41, c42, c43, c44, c45, c46, c47, c48, c49, c50, c51, c52, c53, c54, c55, c56, c57, c58, c59, c60, c61, c62, c63, c64, c65, c66, c67, c68, c69, c70, c71, c72, c73, c74, c75, c76, c77, c78, c79, c80, c81, c82, c83, c84, c85, c86, c87, c88, c89, c90, c91, c92, c93, c94, c95, c96, c97, c98, c99, c100, c101, c102, c103, c104, c105, c106, c107, c108, c109, c110, c111, c112, c113, c114, c115, c116, c117, c118, c119, c120, c121, c122, c123, c124, c125, c126, c127, c128, c129, c130, c131, c132, c133, c134, c135, c136, c137, c138, c139, c140, c141, c142, c143, c144, c145, c146, c147, c148, c149, c150, c151, c152, c153, c154, c155, c156, c157, c158, c159, c160, c161, c162, c163, c164, c165, c166, c167, c168, c169, c170, c171, c172, c173, c174, c175, c176, c177, c178, c179, c180, c181, c182, c183, c184, c185, c186, c187, c188, c189, c190, c191, c192, c193, c194, c195, c196, c197, c198, c199, c200, c201, c202, c203, c204, c205, c206, c207, c208, c209, c210, c211, c212, c213, c214, c215, c216, c217, c218, c219, c220, c221, c222, c223, c224], []⟩ w0 := by
  have hwb : b ≤ w0.heap.size := by have := hB.size; omega
  have n1 : ¬ (12 : Int) < (r.deep : Int) := by omega
  have n2 : ¬ (140 : Int) < (r.bare.length : Int) := by omega
  have n3 : ¬ (140 : Int) < (r.text.length : Int) := by omega
  obtain ⟨z0, z1, z2, z3⟩ := mk_cells hz
  have k0 : ((kd : Int) == 0) = false := by simp; omega
  have k1 : ((kd : Int) == 1) = false := by simp; omega
  have k8 : ¬ (8 : Int) < (kd : Int) := by omega
  clear hk
  conv => arg 2; whnf
  go_upto_region 31 with fail
  obtain ⟨va, vc, hA⟩ := hT.ready hb hB.drew (j := 2) (by decide)
  have t0 : w0.cell? ⟨p, 2, none⟩ = some (.slice va (l 2).length vc) := hA.cell
  have pa : p < w0.heap.size := World.block_lt_of_cell? w0 _ t0
  have pb : p ≠ w0.heap.size := by omega
  have pc : w0.heap.size ≠ p := by omega
  obtain ⟨x0, x1, x2, x3⟩ := mk_cells hz
  have HA : Hid _ := hA
  obtain ⟨i0, hi, hz3⟩ := Option.map_eq_some_iff.1 info_made
  simp only [Prod.mk.injEq] at hz3
  obtain ⟨hz0, hz1, hz2⟩ := hz3
  clear hA hT hB hz
  go_region_law (first
    | (refine step_append_lies _ (by rfl) _ _ _ (by rfl) b 104 i0 _ 4 48 Tryz.underlying98 hi hz0 hz1 hz2 (by rfl) (by decide) (.slice va (l 2).length vc) (l 2).length ((l 2).flatMap mkC) (by rfl) (World.ownsRow.alloc HA.out.row _) ⟨w0.heap.size, 0, none⟩ 1 1 [S r.text, S r.bare, .int .i64 r.told, .int .i64 (r.deep : Nat)] (by rfl) (by rfl) (World.news_of_block (heap_alloc_new w0.drew _)) (fun x hx => by simp at hx; rcases hx with rfl | rfl | rfl | rfl <;> rfl) (by decide) (by unfold maxLen; omega) (by omega) (by simp; omega) (w0.heap.size + 1) (by simp) ?_; intro gg cap' w5 hown3 hgrow hat hlt3; obtain ⟨y0, yf0⟩ := HA.out.far _ _ hgrow; have HN : Hid _ := HA.out.put _ r _ _ _ hgrow (by rcases hat with h | h; exact .inl h; right; rw [h, World.size_alloc]; rfl) hown3; clear hown3 hgrow hat))
  all_goals
    go_wp2_with fail
    obtain ⟨⟨v', h1⟩, h2⟩ := HN.out
    first | exact ⟨rfl, v', h1, h2⟩ | exact ⟨rfl, ⟨v', h1⟩, h2⟩
end Go.Proofs.YtfkdailfcmnjlaaGreatDoor

namespace Go.Proofs.YtfkdailfcmnjlaaGreatDoor
open Go Go.RowKit
set_option maxRecDepth 100000
attribute [local go_sem ↓] Go.wp_at_zero Go.wp_at_succ

theorem jr_end {R : World → Prop} {Post : Ending → World → Prop} (hp : ∀ w, R w → Post (.returned (.tuple #[])) w) {e : Exit} {a : Act} {w : World} (h : JR R e a w) : bodyPost Tryz.prog Tryz.f38 Post e a w := by
  cases e with
  | normal => exact ⟨h.1, _, results_none rfl _ _ _, hp _ h.2⟩
  | ret => exact ⟨h.1, _, results_none rfl _ _ _, hp _ h.2⟩
  | _ => exact h.elim
theorem third_in {n : Int} (hn : In64 n) : In64 (n.tdiv 3) := by
  unfold In64 at *
  by_cases h : 0 ≤ n
  · rw [Int.tdiv_eq_ediv_of_nonneg h]; omega
  · have e : n.tdiv 3 = -((-n) / 3) := by rw [← Int.tdiv_eq_ediv_of_nonneg (by omega), Int.neg_tdiv, Int.neg_neg]
    rw [e]; omega
def zeroM : Mk := ⟨[48], [48, 48], 0, 1⟩
def noneM : Mk := ⟨[110, 111, 110, 101], [110, 111, 110, 101], 0, 1⟩
def yesM : Mk := ⟨wTrue, wTrue, 1, 1⟩
theorem has_01 {x : Int} (h : Has 116 x) : x = 0 ∨ x = 1 := h.2 rfl
theorem gM_len (kd : Nat) {a b m k x y : Mk} (ha : Small a) (hb : Small b) (hm : Small m) (hk : Small k) (hx : Small x) (hy : Small y) : (gM kd a b m k x y).text.length ≤ 100000 ∧ (gM kd a b m k x y).bare.length ≤ 100000 ∧ (gM kd a b m k x y).deep ≤ 100000 := by
  obtain ⟨a1, a2, a3, _⟩ := ha
  obtain ⟨b1, b2, b3, _⟩ := hb
  obtain ⟨m1, m2, m3, _⟩ := hm
  obtain ⟨k1, k2, k3, _⟩ := hk
  obtain ⟨x1, x2, x3, _⟩ := hx
  obtain ⟨y1, y2, y3, _⟩ := hy
  have h2 : ∀ (p q : Mk) (s : List UInt8) (t : Int), p.text.length ≤ 1000 → p.bare.length ≤ 1000 → p.deep ≤ 100 → q.text.length ≤ 1000 → q.bare.length ≤ 1000 → q.deep ≤ 100 → s.length ≤ 10 → (bothM p s q t).text.length ≤ 100000 ∧ (bothM p s q t).bare.length ≤ 100000 ∧ (bothM p s q t).deep ≤ 100000 := fun p q s t _ _ _ _ _ _ _ => by
    unfold bothM
    refine ⟨?_, ?_, ?_⟩
    · simp; omega
    · simp; omega
    · simp only []; omega
  unfold gM
  repeat' split
  all_goals first
    | exact h2 _ _ _ _ (by assumption) (by assumption) (by assumption) (by assumption) (by assumption) (by assumption) (by decide)
    | (refine ⟨?_, ?_, ?_⟩
       · simp [wsNot, ifM, wsIf, wsThen, wsElse]; omega
       · simp [wsNot, ifM, wsIf, wsThen, wsElse]; omega
       · simp only [ifM]; omega)
set_option maxHeartbeats 8000000 in
set_option maxRecDepth 1000000 in
theorem grown_any {b p : Nat} {w : World} {v : Nat → Value} {l : Nat → List Mk} {c : Scn} {n : Int} (hn : In64 n) {kd : Nat} (h9 : kd ≤ 9) (hT : TI b w p v l) (hb : b ≤ w.heap.size) (hg : GoodL (scF c) l) (hl : ∀ j, j < 3 → (l j).length ≤ 1000) :
    Calls Tryz.prog 38 #[.pointer (some ⟨p, 0, none⟩), .agg (scC c), .int .i64 kd, .int .i64 n] w (MadeOut c b p w l) := by
  have hn3 := third_in hn
  have HW : Hid (∀ j, j < 3 → ∀ (o : Mk) (q : Int), In64 q → ∀ W, Below w.heap.size w W → Calls Tryz.prog 72 #[v j, .int .i64 q, mkV o] W fun e w' => e = .returned (mkV (lastM (l j) q o)) ∧ w' = (W.alloc (mkO o)).alloc (mkO (lastM (l j) q o))) := fun j hj o q hq W h => last_exact hq (hl j hj) o W (ownsRow_below (hT.row j hj) h)
  have HV : Hid (∀ W, Below w.heap.size w W → W.cell? ⟨p, 0, none⟩ = some (v 0) ∧ W.cell? ⟨p, 1, none⟩ = some (v 1) ∧ W.cell? ⟨p, 2, none⟩ = some (v 2)) := fun W h => ⟨((hT.below h).cell).1, ((hT.below h).cell).2.1, ((hT.below h).cell).2.2.1⟩
  have a0 : MkOK (scF c) (tyJ 0) (lastM (l 0) n zeroM) := last_ok hg (j := 0) (by decide) n (zero_ok (scF c))
  have b0 : MkOK (scF c) (tyJ 0) (lastM (l 0) (n.tdiv 3) zeroM) := last_ok hg (j := 0) (by decide) (n.tdiv 3) (zero_ok (scF c))
  have m0 : MkOK (scF c) (tyJ 1) (lastM (l 1) n noneM) := last_ok hg (j := 1) (by decide) n (none_ok (scF c))
  have k0 : MkOK (scF c) (tyJ 1) (lastM (l 1) (n.tdiv 3) noneM) := last_ok hg (j := 1) (by decide) (n.tdiv 3) (none_ok (scF c))
  have x0 : MkOK (scF c) (tyJ 2) (lastM (l 2) n yesM) := last_ok hg (j := 2) (by decide) n (yes_ok (scF c))
  have y0 : MkOK (scF c) (tyJ 2) (lastM (l 2) (n.tdiv 3) yesM) := last_ok hg (j := 2) (by decide) (n.tdiv 3) (yes_ok (scF c))
  have HG : Hid (GoodL (scF c) l) := hg
  have HT : Hid (TI b w p v l) := hT
  have HL : Hid (∀ j, j < 3 → (l j).length ≤ 1000) := hl
  clear hg hT hl
  unfold scC
  go_enter Tryz.func38, Tryz.ntmps38
  go_upto_region 4 with fail
  go_name_world w0 hw0
  have hs0 : w0.heap.size = w.heap.size + 4 := by rw [← hw0]; simp
  have Z3 : MkAt w0 (w.heap.size + 1 + 1 + 1) yesM := by rw [← hw0]; exact mk_new (m := yesM) (by simp)
  have Z2 : MkAt w0 (w.heap.size + 1 + 1) noneM := by rw [← hw0]; exact mk_old (mk_new (m := noneM) (by simp))
  have Z1 : MkAt w0 (w.heap.size + 1) zeroM := by rw [← hw0]; exact mk_old (mk_old (mk_new (m := zeroM) (by simp)))
  have hB0 : Below w.heap.size w w0 := by rw [← hw0]; exact ((((Below.refl _ _).alloc (Nat.le_refl _) _).alloc (by simp) _).alloc (by simp; omega) _).alloc (by simp; omega) _
  clear hw0
  refine wp_take (take_4 (o := zeroM) _ _ _ _ _ _ _ _ _ _ _ _ _ _ _ _ _ _ _ _ _ _ _ _ _ _ _ _ _ _ _ _ _ _ _ _ _ _ _ _ _ _ _ _ _ _ _ _ _ _ _ _ _ _ _ _ _ _ _ _ _ _ _ _ _ _ _ _ _ _ _ _ _ _ _ _ _ _ _ _ _ _ _ _ _ _ _ _ _ _ _ _ _ _ _ _ _ _ _ _ _ _ _ _ _ _ _ _ _ _ _ _ _ _ _ _ _ _ _ _ _ _ _ _ _ _ _ _ _ _ _ _ _ _ _ _ _ _ _ _ _ _ _ _ _ _ _ _ _ _ _ _ _ _ _ _ _ _ _ _ _ _ _ _ _ _ _ _ _ _ _ _ _ _ _ _ _ _ _ _ _ _ _ _ _ _ _ _ _ _ _ _ _ _ _ _ _ _ _ _ _ _ _ _ _ _ _ _ _ _ _ _ _ _ _ _ _ _ _ _ _ _ hn3 Z1 (HV.out w0 hB0).1 (fun W h => HW.out 0 (by decide) zeroM n hn W (hB0.trans (h.mono hB0.size))) (fun W h => HW.out 0 (by decide) zeroM _ hn3 W (hB0.trans (h.mono hB0.size)))) ?_
  rintro a1 w1 ⟨ga, gb, u21, u22, u23, u24, u25, u26, u27, u28, u29, u30, u31, u32, u33, u34, u35, rfl, hga, hgb, hB1⟩
  simp only [Exit.then]
  have B1 : Below w.heap.size w w1 := hB0.trans (hB1.mono hB0.size)
  go_upto_region 5 with fail
  refine wp_take (take_5 (o := noneM) _ _ _ _ _ _ _ _ _ _ _ _ _ _ _ _ _ _ _ _ _ _ _ _ _ _ _ _ _ _ _ _ _ _ _ _ _ _ _ _ _ _ _ _ _ _ _ _ _ _ _ _ _ _ _ _ _ _ _ _ _ _ _ _ _ _ _ _ _ _ _ _ _ _ _ _ _ _ _ _ _ _ _ _ _ _ _ _ _ _ _ _ _ _ _ _ _ _ _ _ _ _ _ _ _ _ _ _ _ _ _ _ _ _ _ _ _ _ _ _ _ _ _ _ _ _ _ _ _ _ _ _ _ _ _ _ _ _ _ _ _ _ _ _ _ _ _ _ _ _ _ _ _ _ _ _ _ _ _ _ _ _ _ _ _ _ _ _ _ _ _ _ _ _ _ _ _ _ _ _ _ _ _ _ _ _ _ _ _ _ _ _ _ _ _ _ _ _ _ _ _ _ _ _ _ _ _ _ _ _ _ _ _ _ _ _ _ _ _ _ _ _ hn3 (mk_below Z2 hB1 (by omega)) (HV.out w1 B1).2.1 (fun W h => HW.out 1 (by decide) noneM n hn W (B1.trans (h.mono B1.size))) (fun W h => HW.out 1 (by decide) noneM _ hn3 W (B1.trans (h.mono B1.size)))) ?_
  rintro a2 w2 ⟨gm, gk, u36, u37, u38, u39, u40, u41, u42, u43, u44, u45, u46, u47, u48, u49, u50, rfl, hgm, hgk, hB2⟩
  simp only [Exit.then]
  have B2 : Below w.heap.size w w2 := B1.trans (hB2.mono B1.size)
  go_upto_region 6 with fail
  refine wp_take (take_6 (o := yesM) _ _ _ _ _ _ _ _ _ _ _ _ _ _ _ _ _ _ _ _ _ _ _ _ _ _ _ _ _ _ _ _ _ _ _ _ _ _ _ _ _ _ _ _ _ _ _ _ _ _ _ _ _ _ _ _ _ _ _ _ _ _ _ _ _ _ _ _ _ _ _ _ _ _ _ _ _ _ _ _ _ _ _ _ _ _ _ _ _ _ _ _ _ _ _ _ _ _ _ _ _ _ _ _ _ _ _ _ _ _ _ _ _ _ _ _ _ _ _ _ _ _ _ _ _ _ _ _ _ _ _ _ _ _ _ _ _ _ _ _ _ _ _ _ _ _ _ _ _ _ _ _ _ _ _ _ _ _ _ _ _ _ _ _ _ _ _ _ _ _ _ _ _ _ _ _ _ _ _ _ _ _ _ _ _ _ _ _ _ _ _ _ _ _ _ _ _ _ _ _ _ _ _ _ _ _ _ _ _ _ _ _ _ _ _ _ _ _ _ _ _ _ hn3 (mk_below (mk_below Z3 hB1 (by omega)) hB2 (by have := hB1.size; omega)) (HV.out w2 B2).2.2 (fun W h => HW.out 2 (by decide) yesM n hn W (B2.trans (h.mono B2.size))) (fun W h => HW.out 2 (by decide) yesM _ hn3 W (B2.trans (h.mono B2.size)))) ?_
  rintro a3 w3 ⟨gx, gy, u51, u52, u53, u54, u55, u56, u57, u58, u59, u60, u61, u62, u63, u64, u65, rfl, hgx, hgy, hB3⟩
  simp only [Exit.then]
  have B3 : Below w.heap.size w w3 := B2.trans (hB3.mono B2.size)
  have A1 := mk_below (mk_below hga hB2 (lt_of_get hga)) hB3 (lt_of_get (mk_below hga hB2 (lt_of_get hga)))
  have A2 := mk_below (mk_below hgb hB2 (lt_of_get hgb)) hB3 (lt_of_get (mk_below hgb hB2 (lt_of_get hgb)))
  have A3 := mk_below hgm hB3 (lt_of_get hgm)
  have A4 := mk_below hgk hB3 (lt_of_get hgk)
  go_upto_block 0 with fail
  rename_i K hK
  go_name_world w4 hw4
  have hs4 : w4.heap.size = w3.heap.size + 1 := by rw [← hw4]; simp
  have hB4 : Below w3.heap.size w3 w4 := by rw [← hw4]; exact (Below.refl _ _).alloc (Nat.le_refl _) _
  have hz4 : MkAt w4 w3.heap.size noMk := by rw [← hw4]; exact mk_new (m := noMk) rfl
  have B4 : Below w.heap.size w w4 := B3.trans (hB4.mono B3.size)
  clear hw4
  have HI : SwI w4 ga gb gm gk gx gy w3.heap.size _ _ _ _ _ _ := ⟨mk_below A1 hB4 (lt_of_get A1), mk_below A2 hB4 (lt_of_get A2), mk_below A3 hB4 (lt_of_get A3), mk_below A4 hB4 (lt_of_get A4), mk_below hgx hB4 (lt_of_get hgx), mk_below hgy hB4 (lt_of_get hgy), hz4, lt_of_get A1, lt_of_get A2, lt_of_get A3, lt_of_get A4, lt_of_get hgx, lt_of_get hgy, a0.small, b0.small, m0.small, k0.small, x0.small, y0.small, has_01 x0.told, has_01 y0.told⟩
  refine wp_take (sw_any h9 _ _ _ _ _ _ _ _ _ _ _ _ _ _ _ _ _ _ _ _ _ _ _ _ _ _ _ _ _ _ _ _ _ _ _ _ _ _ _ _ _ _ _ _ _ _ _ _ _ _ _ _ _ _ _ _ _ _ _ _ _ _ _ _ _ _ _ _ _ _ _ _ _ _ _ _ _ _ _ _ _ _ _ _ _ _ _ _ _ _ _ _ _ _ _ _ _ _ _ _ _ _ _ _ _ _ _ _ _ _ _ _ _ _ _ _ _ _ _ _ _ _ _ _ _ _ _ _ _ _ _ _ _ _ _ _ _ _ _ _ _ _ _ _ _ _ _ _ _ _ _ _ _ _ _ _ _ _ _ _ _ _ _ _ _ _ _ _ _ _ _ _ _ _ _ _ _ _ _ _ _ _ _ _ _ _ _ _ _ _ _ _ _ _ _ _ _ _ _ _ _ _ _ _ _ _ _ _ _ _ _ _ _ _ _ _ _ HI) ?_
  intro a5 w5 h5
  obtain ⟨u67, h5⟩ := h5
  obtain ⟨u68, h5⟩ := h5
  obtain ⟨u69, h5⟩ := h5
  obtain ⟨u70, h5⟩ := h5
  obtain ⟨u71, h5⟩ := h5
  obtain ⟨u72, h5⟩ := h5
  obtain ⟨u73, h5⟩ := h5
  obtain ⟨u74, h5⟩ := h5
  obtain ⟨u75, h5⟩ := h5
  obtain ⟨u76, h5⟩ := h5
  obtain ⟨u77, h5⟩ := h5
  obtain ⟨u78, h5⟩ := h5
  obtain ⟨u79, h5⟩ := h5
  obtain ⟨u80, h5⟩ := h5
  obtain ⟨u81, h5⟩ := h5
  obtain ⟨u82, h5⟩ := h5
  obtain ⟨u83, h5⟩ := h5
  obtain ⟨u84, h5⟩ := h5
  obtain ⟨u85, h5⟩ := h5
  obtain ⟨u86, h5⟩ := h5
  obtain ⟨u87, h5⟩ := h5
  obtain ⟨u88, h5⟩ := h5
  obtain ⟨u89, h5⟩ := h5
  obtain ⟨u90, h5⟩ := h5
  obtain ⟨u91, h5⟩ := h5
  obtain ⟨u92, h5⟩ := h5
  obtain ⟨u93, h5⟩ := h5
  obtain ⟨u94, h5⟩ := h5
  obtain ⟨u95, h5⟩ := h5
  obtain ⟨u96, h5⟩ := h5
  obtain ⟨u97, h5⟩ := h5
  obtain ⟨u98, h5⟩ := h5
  obtain ⟨u99, h5⟩ := h5
  obtain ⟨u100, h5⟩ := h5
  obtain ⟨u101, h5⟩ := h5
  obtain ⟨u102, h5⟩ := h5
  obtain ⟨u103, h5⟩ := h5
  obtain ⟨u104, h5⟩ := h5
  obtain ⟨u105, h5⟩ := h5
  obtain ⟨u106, h5⟩ := h5
  obtain ⟨u107, h5⟩ := h5
  obtain ⟨u108, h5⟩ := h5
  obtain ⟨u109, h5⟩ := h5
  obtain ⟨u110, h5⟩ := h5
  obtain ⟨u111, h5⟩ := h5
  obtain ⟨u112, h5⟩ := h5
  obtain ⟨u113, h5⟩ := h5
  obtain ⟨u114, h5⟩ := h5
  obtain ⟨u115, h5⟩ := h5
  obtain ⟨u116, h5⟩ := h5
  obtain ⟨u117, h5⟩ := h5
  obtain ⟨u118, h5⟩ := h5
  obtain ⟨u119, h5⟩ := h5
  obtain ⟨u120, h5⟩ := h5
  obtain ⟨u121, h5⟩ := h5
  obtain ⟨u122, h5⟩ := h5
  obtain ⟨u123, h5⟩ := h5
  obtain ⟨u124, h5⟩ := h5
  obtain ⟨u125, h5⟩ := h5
  obtain ⟨u126, h5⟩ := h5
  obtain ⟨u127, h5⟩ := h5
  obtain ⟨u128, h5⟩ := h5
  obtain ⟨u129, h5⟩ := h5
  obtain ⟨u130, h5⟩ := h5
  obtain ⟨u131, h5⟩ := h5
  obtain ⟨u132, h5⟩ := h5
  obtain ⟨u133, h5⟩ := h5
  obtain ⟨u134, h5⟩ := h5
  obtain ⟨u135, h5⟩ := h5
  obtain ⟨u136, h5⟩ := h5
  obtain ⟨u137, h5⟩ := h5
  obtain ⟨u138, h5⟩ := h5
  obtain ⟨u139, h5⟩ := h5
  obtain ⟨u140, h5⟩ := h5
  obtain ⟨u141, h5⟩ := h5
  obtain ⟨u142, h5⟩ := h5
  obtain ⟨u143, h5⟩ := h5
  obtain ⟨u144, h5⟩ := h5
  obtain ⟨u145, h5⟩ := h5
  obtain ⟨u146, h5⟩ := h5
  obtain ⟨u147, h5⟩ := h5
  obtain ⟨u148, h5⟩ := h5
  obtain ⟨u149, h5⟩ := h5
  obtain ⟨u150, h5⟩ := h5
  obtain ⟨u151, h5⟩ := h5
  obtain ⟨u152, h5⟩ := h5
  obtain ⟨u153, h5⟩ := h5
  obtain ⟨u154, h5⟩ := h5
  obtain ⟨u155, h5⟩ := h5
  obtain ⟨u156, h5⟩ := h5
  obtain ⟨u157, h5⟩ := h5
  obtain ⟨u158, h5⟩ := h5
  obtain ⟨u159, h5⟩ := h5
  obtain ⟨u160, h5⟩ := h5
  obtain ⟨u161, h5⟩ := h5
  obtain ⟨u162, h5⟩ := h5
  obtain ⟨u163, h5⟩ := h5
  obtain ⟨u164, h5⟩ := h5
  obtain ⟨u165, h5⟩ := h5
  obtain ⟨u166, h5⟩ := h5
  obtain ⟨u167, h5⟩ := h5
  obtain ⟨u168, h5⟩ := h5
  obtain ⟨u169, h5⟩ := h5
  obtain ⟨u170, h5⟩ := h5
  obtain ⟨u171, h5⟩ := h5
  obtain ⟨u172, h5⟩ := h5
  obtain ⟨u173, h5⟩ := h5
  obtain ⟨u174, h5⟩ := h5
  obtain ⟨u175, h5⟩ := h5
  obtain ⟨u176, h5⟩ := h5
  obtain ⟨u177, h5⟩ := h5
  obtain ⟨u178, h5⟩ := h5
  obtain ⟨u179, h5⟩ := h5
  obtain ⟨rfl, hz5, hB5⟩ := h5
  simp only [Exit.then]
  have B5 : Below w.heap.size w w5 := B4.trans (hB5.mono (by have := B3.size; omega))
  have L5 := gM_len kd a0.small b0.small m0.small k0.small x0.small y0.small
  have OK5 := @gM_ok (scF c) kd _ _ _ _ _ _ a0 b0 m0 k0 x0 y0
  clear HI A1 A2 A3 A4 hga hgb hgm hgk hgx hgy hB5 hB4 hz4 hB3 hB2 hB1 Z1 Z2 Z3 a0 b0 m0 k0 x0 y0 HW HV
  generalize gM kd _ _ _ _ _ _ = r at *
  by_cases hr : r.deep ≤ 12 ∧ r.bare.length ≤ 140 ∧ r.text.length ≤ 140
  · obtain ⟨r1, r2, r3⟩ := hr
    have ok := OK5 r1 r3 r2
    by_cases hk : 2 ≤ kd ∧ kd ≤ 8
    · have ej : gJ kd = 2 := by unfold gJ; rw [if_neg (by omega)]
      rw [ej] at ok
      refine hK _ _ (wp_mono (tail_2 _ _ _ _ _ _ _ _ _ _ _ _ _ _ _ _ _ _ _ _ _ _ _ _ _ _ _ _ _ _ _ _ _ _ _ _ _ _ _ _ _ _ _ _ _ _ _ _ _ _ _ _ _ _ _ _ _ _ _ _ _ _ _ _ _ _ _ _ _ _ _ _ _ _ _ _ _ _ _ _ _ _ _ _ _ _ _ _ _ _ _ _ _ _ _ _ _ _ _ _ _ _ _ _ _ _ _ _ _ _ _ _ _ _ _ _ _ _ _ _ _ _ _ _ _ _ _ _ _ _ _ _ _ _ _ _ _ _ _ _ _ _ _ _ _ _ _ _ _ _ _ _ _ _ _ _ _ _ _ _ _ _ _ _ _ _ _ _ _ _ _ _ _ _ _ _ _ _ _ _ _ _ _ _ _ _ _ _ _ _ _ _ _ _ _ _ _ _ _ _ _ _ _ _ _ _ _ _ _ _ _ _ _ _ _ _ _ _ _ _ _ _ hk HT.out hb B5 hz5 (HL.out 2 (by decide)) r1 r2 r3) (fun e a w' h => jr_end ?_ h))
      rintro w' ⟨v', h1, h2⟩
      exact ⟨rfl, v', _, h1, HG.out.put ok, upd_len _, h2⟩
    · have ej : gJ kd = 0 := by unfold gJ; rw [if_pos (by omega)]
      rw [ej] at ok
      refine hK _ _ (wp_mono (tail_0 _ _ _ _ _ _ _ _ _ _ _ _ _ _ _ _ _ _ _ _ _ _ _ _ _ _ _ _ _ _ _ _ _ _ _ _ _ _ _ _ _ _ _ _ _ _ _ _ _ _ _ _ _ _ _ _ _ _ _ _ _ _ _ _ _ _ _ _ _ _ _ _ _ _ _ _ _ _ _ _ _ _ _ _ _ _ _ _ _ _ _ _ _ _ _ _ _ _ _ _ _ _ _ _ _ _ _ _ _ _ _ _ _ _ _ _ _ _ _ _ _ _ _ _ _ _ _ _ _ _ _ _ _ _ _ _ _ _ _ _ _ _ _ _ _ _ _ _ _ _ _ _ _ _ _ _ _ _ _ _ _ _ _ _ _ _ _ _ _ _ _ _ _ _ _ _ _ _ _ _ _ _ _ _ _ _ _ _ _ _ _ _ _ _ _ _ _ _ _ _ _ _ _ _ _ _ _ _ _ _ _ _ _ _ _ _ _ _ _ _ _ _ (by omega) HT.out hb B5 hz5 (HL.out 0 (by decide)) r1 r2 r3) (fun e a w' h => jr_end ?_ h))
      rintro w' ⟨v', h1, h2⟩
      exact ⟨rfl, v', _, h1, HG.out.put ok, upd_len _, h2⟩
  · refine hK _ _ (wp_mono (tail_no _ _ _ _ _ _ _ _ _ _ _ _ _ _ _ _ _ _ _ _ _ _ _ _ _ _ _ _ _ _ _ _ _ _ _ _ _ _ _ _ _ _ _ _ _ _ _ _ _ _ _ _ _ _ _ _ _ _ _ _ _ _ _ _ _ _ _ _ _ _ _ _ _ _ _ _ _ _ _ _ _ _ _ _ _ _ _ _ _ _ _ _ _ _ _ _ _ _ _ _ _ _ _ _ _ _ _ _ _ _ _ _ _ _ _ _ _ _ _ _ _ _ _ _ _ _ _ _ _ _ _ _ _ _ _ _ _ _ _ _ _ _ _ _ _ _ _ _ _ _ _ _ _ _ _ _ _ _ _ _ _ _ _ _ _ _ _ _ _ _ _ _ _ _ _ _ _ _ _ _ _ _ _ _ _ _ _ _ _ _ _ _ _ _ _ _ _ _ _ _ _ _ _ _ _ _ _ _ _ _ _ _ _ _ _ _ _ _ _ _ _ _ hz5 L5 hr) (fun e a w' h => jr_end ?_ h))
    rintro w' rfl
    exact ⟨rfl, v, l, HT.out.below B5, HG.out, fun _ _ => by omega, B5.mono hb⟩
end Go.Proofs.YtfkdailfcmnjlaaGreatDoor

namespace Go.Proofs.YtfkdailfcmnjlaaGreatDoor
open Go Go.RowKit
set_option maxRecDepth 100000
attribute [local go_sem ↓] Go.wp_at_zero Go.wp_at_succ loadAt_sc

/-- A row of numbers that was handed in. -/
def IntsAt (v : Value) (zs : List Int) (w : World) : Prop := zs.length ≤ maxLen ∧ ∃ (a : Option Addr) (cap : Nat), v = .slice a zs.length cap ∧ ∀ i, i < zs.length → ∃ b o, a = some ⟨b, o, none⟩ ∧ w.cell? ⟨b, o + i, none⟩ = some (.int .i64 (zs.getD i 0))
/-- What the first loop keeps. -/
def LoopI (c : Scn) (b p : Nat) (w0 wr : World) (k : Nat) : Prop := ∃ v l, TI b wr p v l ∧ GoodL (scF c) l ∧ (∀ j, j < 3 → (l j).length ≤ k) ∧ Below b w0 wr
set_option maxHeartbeats 8000000 in
set_option maxRecDepth 1000000 in
theorem loop_1 {c : Scn} (hc : ScnIn c) {b p cb N cap : Nat} {a : Option Addr} {zs : List Int} {w0 : World} (c0 c3 c4 c7 c8 c9 c10 c11 c12 c13 c14 c15 c16 c17 c18 c19 c20 c21 c22 c23 c24 c25 c26 c27 c28 c29 c30 c31 c32 c33 c34 c35 c36 c37 c38 c39 c40 c41 c42 c43 c44 c45 c46 c47 c48 c49 c50 c51 c52 c53 c54 c55 c56 c57 c58 c59 c60 c61 c62 c63 c64 c65 c66 c67 c68 c69 c70 c71 c72 c73 c74 c75 c76 c77 c78 c79 c80 c81 c82 c83 c84 c85 c86 c87 c88 c89 c90 c91 c92 c93 c94 c95 c96 c97 c98 c99 c100 c101 c102 c103 c104 c105 c106 c107 c108 c109 c110 c111 c112 c113 c114 c115 c116 c117 c118 c119 c120 c121 c122 c123 c124 c125 c126 c127 c128 c129 c130 c131 c132 c133 c134 c135 c136 c137 c138 c139 : Value) (hN : zs.length = N) (hN2 : N ≤ maxLen) (ha : ∀ i, i < N → ∃ rb ro, a = some ⟨rb, ro, none⟩ ∧ rb < b ∧ w0.cell? ⟨rb, ro + i, none⟩ = some (.int .i64 (zs.getD i 0))) (hin : ∀ z ∈ zs, In64 z)
    (hcb : w0.heap[cb]? = some (.cells (scC c) 37 (0, 0))) (hcbb : cb < b) (hb : b ≤ w0.heap.size) (hI : LoopI c b p w0 w0 0) :
    Code.wp Tryz.prog ((Tryz.f16.body.bind blkIn).getD .skip) (JN (fun a' w' => ∃ (u6 u7 u15 u16 u17 u18 u19 u20 u21 u22 u23 u24 u25 u26 u27 u28 u29 u30 u31 u32 u33 u34 u35 u36 u37 u38 u39 u40 u41 u42 u43 u44 u45 u46 u47 u48 u49 u50 u51 : Value), a' = ⟨#[c0, .slice a N cap, .pointer (some ⟨cb, 0, none⟩), c3, c4, .pointer (some ⟨p, 0, none⟩), u6, u7, c8, c9, c10, c11, c12, c13, c14, u15, u16, u17, u18, u19, u20, u21, u22, u23, u24, u25, u26, u27, u28, u29, u30, u31, u32, u33, u34, u35, u36, u37, u38, u39, u40, u41, u42, u43, u44, u45, u46, u47, u48, u49, u50, u51, c52, c53, c54, c55, c56, c57, c58, c59, c60, c61, c62, c63, c64, c65, c66, c67, c68, c69, c70, c71, c72, c73, c74, c75, c76, c77, c78, c79, c80, c81, c82, c83, c84, c85, c86, c87, c88, c89, c90, c91, c92, c93, c94, c95, c96, c97, c98, c99, c100, c101, c102, c103, c104, c105, c106, c107, c108, c109, c110, c111, c112, c113, c114, c115, c116, c117, c118, c119, c120, c121, c122, c123, c124, c125, c126, c127, c128, c129, c130, c131, c132, c133, c134, c135, c136, c137, c138, c139], []⟩ ∧ LoopI c b p w0 w' 20)) ⟨#[c0, .slice a N cap, .pointer (some ⟨cb, 0, none⟩), c3, c4, .pointer (some ⟨p, 0, none⟩), .int .i64 0, c7, c8, c9, c10, c11, c12, c13, c14, c15, c16, c17, c18, c19, c20, c21, c22, c23, c24, c25, c26, c27, c28, c29, c30, c31, c32, c33, c34, c35, c36, c37, c38, c39, c40, c41, c42, c43, c44, c45, c46, c47, c48, c49, c50, c51, c52, c53, c54, c55, c56, c57, c58, c59, c60, c61, c62, c63, c64, c65, c66, c67, c68, c69, c70, c71, c72, c73, c74, c75, c76, c77, c78, c79, c80, c81, c82, c83, c84, c85, c86, c87, c88, c89, c90, c91, c92, c93, c94, c95, c96, c97, c98, c99, c100, c101, c102, c103, c104, c105, c106, c107, c108, c109, c110, c111, c112, c113, c114, c115, c116, c117, c118, c119, c120, c121, c122, c123, c124, c125, c126, c127, c128, c129, c130, c131, c132, c133, c134, c135, c136, c137, c138, c139], []⟩ w0 := by
  unfold maxLen at hN2
  have HA : Hid (∀ i, i < N → ∃ rb ro, a = some ⟨rb, ro, none⟩ ∧ rb < b ∧ w0.cell? ⟨rb, ro + i, none⟩ = some (.int .i64 (zs.getD i 0))) := ha
  have HZ : Hid (∀ i, i < N → In64 (zs.getD i 0)) := fun i hi => by
    rw [List.getD_eq_getElem?_getD, List.getElem?_eq_getElem (by omega)]
    exact hin _ (List.getElem_mem _)
  have HC : Hid (w0.heap[cb]? = some (.cells (scC c) 37 (0, 0))) := hcb
  have HI0 : Hid (LoopI c b p w0 w0 0) := hI
  clear ha hin hcb hI hN
  conv => arg 2; whnf
  go_wp2_with fail
  go_loopw [6] (fun iv wr => ∃ k : Nat, k ≤ 20 ∧ iv = .int .i64 ((2 * k : Nat) : Int) ∧ Hid (LoopI c b p w0 wr k)) (fun iv _ => 41 - (intOf iv).toNat)
  case atStart => exact ⟨0, by omega, rfl, HI0.out⟩
  case round =>
    obtain ⟨k, hk, rfl, HI⟩ := hrel
    by_cases h1 : 2 * k + 1 < N
    · by_cases h2 : k < 20
      · obtain ⟨v, l, hT, hg, hl, hB⟩ := HI.out
        obtain ⟨rb, ro, rfl, hrb, q0⟩ := HA.out (2 * k) (by omega)
        obtain ⟨_, _, e0, _, q1⟩ := HA.out (2 * k + 1) h1
        simp only [Option.some.injEq, Addr.mk.injEq, and_true] at e0
        obtain ⟨rfl, rfl⟩ := e0
        have z0 := HZ.out (2 * k) (by omega)
        have z1 := HZ.out (2 * k + 1) h1
        have r0 : wr.cell? ⟨rb, ro + 2 * k, none⟩ = some (.int .i64 (zs.getD (2 * k) 0)) := by rw [hB.cell (p := ⟨rb, ro + 2 * k, none⟩) hrb]; exact q0
        have R1 : ∀ W, Below b wr W → W.cell? ⟨rb, ro + (2 * k + 1), none⟩ = some (.int .i64 (zs.getD (2 * k + 1) 0)) := fun W h => by
          rw [h.cell (p := ⟨rb, ro + (2 * k + 1), none⟩) hrb, hB.cell (p := ⟨rb, ro + (2 * k + 1), none⟩) hrb]; exact q1
        have HO : ∀ W, Below b wr W → (loadSc (.pointer (some ⟨cb, 0, none⟩))).run Tryz.prog W = .ok (.agg (scC c)) W := fun W h => by
          exact loadSc_row W _ _ ((h.block _ hcbb).trans ((hB.block _ hcbb).trans HC.out)) rfl
        have W1 := fun w => pickN_any z0 (n := 16) (by decide) (by decide) w
        have p1 := pickN_lt (zs.getD (2 * k) 0) (n := 16) (by decide)
        generalize pickN (zs.getD (2 * k) 0) 16 = kk at *
        generalize zs.getD (2 * k) 0 = x0 at *
        generalize zs.getD (2 * k + 1) 0 = x1 at *
        have hbr : b ≤ wr.heap.size := by have := hB.size; omega
        have HB : Hid (Below b w0 wr) := hB
        have HL : Hid (∀ j, j < 3 → (l j).length ≤ k) := hl
        have hS0 : Below b wr wr := Below.refl _ _
        have hWD : Below wr.heap.size wr wr.drew := (Below.refl _ _).drew
        have KD : Hid (∀ W : World, Below b wr W → Below b wr W.drew) := fun W h => h.drew
        have KC : Hid (∀ w2 : World, Below b wr.drew w2 → Below b wr w2) := fun w2 h => ((Below.refl b wr).drew).trans h
        have hgo1 : (((2 * k : Nat) : Int) + 1) < (N : Int) := by omega
        have hgo2 : ((2 * k : Nat) : Int) < 40 := by omega
        have hq1 : (0 : Int) ≤ 2 * (k : Int) + 1 ∧ 2 * (k : Int) + 1 < (N : Int) := by omega
        have hq3 : IntKind.i64.wrap (2 * (k : Int) + 1) = 2 * (k : Int) + 1 := by rw [IntKind.wrap_i64]; omega
        have hq4 : (2 * (k : Int) + 1).toNat = 2 * k + 1 := by omega
        have HEND : Hid (∀ (W w' : World) (l2 : Nat → List Mk) (v2 : Nat → Value), Below wr.heap.size wr W → TI b w' p v2 l2 → GoodL (scF c) l2 → (∀ j, j < 3 → (l2 j).length ≤ (l j).length + 1) → Below b W w' → LoopI c b p w0 w' (k + 1)) := fun W w' l2 v2 hW hT2 hg2 hl2 hB2 => ⟨v2, l2, hT2, hg2, fun j hj => by have := hl2 j hj; have := HL.out j hj; omega, HB.out.trans ((hW.mono hbr).trans hB2)⟩
        clear q0 q1 hrb HA HZ HC hB hl HI
        by_cases h6 : kk < 6
        · have W2 : Calls Tryz.prog 37 #[.pointer (some ⟨p, 0, none⟩), .agg (scC c), .int .i64 kk, .int .i64 x1] wr.drew (MadeOut c b p wr.drew l) := one_any hc z1 (by omega) (hT.below hWD) hbr hg (fun j hj => by have := HL.out j hj; omega)
          have i6 : (kk : Int) < 6 := by omega
          clear hT hg
          go_upto_region 7 with (go_at_call 36; refine (W1 _).mono ?_; rintro e w' ⟨rfl, hw'⟩; have hw2 := hw'.symm; clear hw'; subst hw2)
          go_region_held3 (fun W => Below b wr W) (first | assumption | with_reducible exact KD.out _ (by assumption) | exact KD.out _ hS0 | exact KC.out _ (by assumption) | go_keep)
            (first
              | (go_at_call 37; refine Calls.mono W2 ?_; rintro e w2 ⟨rfl, v2, l2, hT2, hg2, hl2, hB2⟩))
          all_goals
            have HN : Hid _ := HEND.out _ _ _ _ hWD hT2 hg2 hl2 hB2
            clear hT2 hg2 hl2 hB2
            go_wp2_with fail
            go_roundw
            case rel => exact ⟨k + 1, by omega, by congr 1, HN.out⟩
            case measure => simp [intOf]; omega
        · obtain ⟨k6, rfl⟩ : ∃ k6, kk = k6 + 6 := ⟨kk - 6, by omega⟩
          have W2 : Calls Tryz.prog 38 #[.pointer (some ⟨p, 0, none⟩), .agg (scC c), .int .i64 k6, .int .i64 x1] wr.drew (MadeOut c b p wr.drew l) := grown_any z1 (by omega) (hT.below hWD) hbr hg (fun j hj => by have := HL.out j hj; omega)
          have i6 : ¬ (k6 : Int) + 6 < 6 := by omega
          have i7 : (k6 : Int) + 6 - 6 = (k6 : Int) := by omega
          have i8 : IntKind.i64.wrap (k6 : Int) = (k6 : Int) := by rw [IntKind.wrap_i64]; omega
          clear hT hg
          go_upto_region 8 with (go_at_call 36; refine (W1 _).mono ?_; rintro e w' ⟨rfl, hw'⟩; have hw2 := hw'.symm; clear hw'; subst hw2)
          go_region_held3 (fun W => Below b wr W) (first | assumption | with_reducible exact KD.out _ (by assumption) | exact KD.out _ hS0 | exact KC.out _ (by assumption) | go_keep)
            (first
              | (go_at_call 38; refine Calls.mono W2 ?_; rintro e w2 ⟨rfl, v2, l2, hT2, hg2, hl2, hB2⟩))
          all_goals
            have HN : Hid _ := HEND.out _ _ _ _ hWD hT2 hg2 hl2 hB2
            clear hT2 hg2 hl2 hB2
            go_wp2_with fail
            go_roundw
            case rel => exact ⟨k + 1, by omega, by congr 1, HN.out⟩
            case measure => simp [intOf]; omega
      · have i2 : ¬ ((2 * k : Nat) : Int) < 40 := by omega
        have hgo1 : (((2 * k : Nat) : Int) + 1) < (N : Int) := by omega
        obtain rfl : k = 20 := by omega
        go_wp2_with fail
        first | exact ⟨_, _, _, _, _, _, _, _, _, _, _, _, _, _, _, _, _, _, _, _, _, _, _, _, _, _, _, _, _, _, _, _, _, _, _, _, _, _, _, rfl, HI.out⟩ | exact ⟨⟨_, _, _, _, _, _, _, _, _, _, _, _, _, _, _, _, _, _, _, _, _, _, _, _, _, _, _, _, _, _, _, _, _, _, _, _, _, _, _, rfl⟩, HI.out⟩
    · have i1 : ¬ (((2 * k : Nat) : Int) + 1) < (N : Int) := by omega
      have HI2 : Hid (LoopI c b p w0 wr 20) := by
        obtain ⟨v, l, a1, a2, a3, a4⟩ := HI.out
        exact ⟨v, l, a1, a2, fun j hj => by have := a3 j hj; omega, a4⟩
      clear HI
      go_wp2_with fail
      first | exact ⟨_, _, _, _, _, _, _, _, _, _, _, _, _, _, _, _, _, _, _, _, _, _, _, _, _, _, _, _, _, _, _, _, _, _, _, _, _, _, _, rfl, HI2.out⟩ | exact ⟨⟨_, _, _, _, _, _, _, _, _, _, _, _, _, _, _, _, _, _, _, _, _, _, _, _, _, _, _, _, _, _, _, _, _, _, _, _, _, _, _, rfl⟩, HI2.out⟩
end Go.Proofs.YtfkdailfcmnjlaaGreatDoor

namespace Go.Proofs.YtfkdailfcmnjlaaGreatDoor
open Go Go.RowKit
set_option maxRecDepth 100000
attribute [local go_sem ↓] Go.wp_at_zero Go.wp_at_succ

/-- The body of a block, by its number. -/
def blkNo (k : Nat) : Code → Option Code
  | .loop c => blkNo k c
  | .seq a b => match blkNo k a with
    | some c => some c
    | none => blkNo k b
  | .block n c => if n = k then some c else blkNo k c
  | .scope c => blkNo k c
  | .cond _ a b => match blkNo k a with
    | some c => some c
    | none => blkNo k b
  | _ => none
def headOf : Code → Code
  | .seq a _ => a
  | c => c
theorem below_set {w0 w : World} {g j : Nat} {u : Value} (h : Below g w0 w) : Below g w0 (w.setCell ⟨g, j, none⟩ u) := h.setCell (p := ⟨g, j, none⟩) (Nat.le_refl _) _
/-- A policy that is being written. -/
def WrAt (w : World) (g : Nat) (t b : List UInt8) (al : Bool) (r : Nat) : Prop := w.heap[g]? = some (.cells #[S t, S b, .bool al, .int .i64 (r : Nat), .int .i64 0] 42 (0, 0))
set_option maxHeartbeats 8000000 in
set_option maxRecDepth 1000000 in
theorem wt_0 {p g i L cap : Nat} {m : Mk} {w0 : World} (c0 c1 c2 c3 c4 c6 c7 c8 c9 c11 c12 c13 c14 c15 c16 c17 c18 c19 c20 c21 c22 c23 c24 c25 c26 c27 c28 c29 c30 c31 c32 c33 c34 c35 c36 c37 c38 c39 c40 c41 c42 c43 c44 c45 c46 c47 c48 c49 c50 c51 c52 c53 c54 c55 c56 c57 c58 c59 c60 c61 c62 c63 c64 c65 c66 c67 c68 c69 c70 c71 c72 c73 c74 c75 c76 c77 c78 c79 c80 c81 c82 c83 c84 c85 c86 c87 c88 c89 c90 c91 c92 c93 c94 c95 c96 c97 c98 c99 c100 c101 c102 c103 c104 c105 c106 c107 c108 c109 c110 c111 c112 c113 c114 c115 c116 c117 c118 c119 c120 c121 c122 c123 c124 c125 c126 c127 c128 c129 c130 c131 c132 c133 c134 c135 c136 c137 c138 c139 : Value) (hp : w0.cell? ⟨p, 2, none⟩ = some (.slice (some ⟨g, 0, none⟩) L cap)) (hi : i < L) (h0 : w0.cell? ⟨g, i * 4, none⟩ = some (S m.text)) (h1 : w0.cell? ⟨g, i * 4 + 1, none⟩ = some (S m.bare)) (h2 : w0.cell? ⟨g, i * 4 + 2, none⟩ = some (.int .i64 m.told)) (h3 : w0.cell? ⟨g, i * 4 + 3, none⟩ = some (.int .i64 (m.deep : Nat))) :
    Code.wp Tryz.prog (headOf ((Tryz.f16.body.bind (blkNo 3)).getD .skip)) (JN (fun a' w' => ∃ (u66 u67 u68 u69 u70 u71 u72 : Value), a' = ⟨#[c0, c1, c2, c3, c4, .pointer (some ⟨p, 0, none⟩), c6, c7, c8, c9, .int .i64 (i : Nat), .pointer (some ⟨w0.heap.size, 0, none⟩), c12, c13, c14, c15, c16, c17, c18, c19, c20, c21, c22, c23, c24, c25, c26, c27, c28, c29, c30, c31, c32, c33, c34, c35, c36, c37, c38, c39, c40, c41, c42, c43, c44, c45, c46, c47, c48, c49, c50, c51, c52, c53, c54, c55, c56, c57, c58, c59, c60, c61, c62, c63, c64, c65, u66, u67, u68, u69, u70, u71, u72, c73, c74, c75, c76, c77, c78, c79, c80, c81, c82, c83, c84, c85, c86, c87, c88, c89, c90, c91, c92, c93, c94, c95, c96, c97, c98, c99, c100, c101, c102, c103, c104, c105, c106, c107, c108, c109, c110, c111, c112, c113, c114, c115, c116, c117, c118, c119, c120, c121, c122, c123, c124, c125, c126, c127, c128, c129, c130, c131, c132, c133, c134, c135, c136, c137, c138, c139], []⟩ ∧ w' = w0.alloc (mkO m))) ⟨#[c0, c1, c2, c3, c4, .pointer (some ⟨p, 0, none⟩), c6, c7, c8, c9, .int .i64 (i : Nat), c11, c12, c13, c14, c15, c16, c17, c18, c19, c20, c21, c22, c23, c24, c25, c26, c27, c28, c29, c30, c31, c32, c33, c34, c35, c36, c37, c38, c39, c40, c41, c42, c43, c44, c45, c46, c47, c48, c49, c50, c51, c52, c53, c54, c55, c56, c57, c58, c59, c60, c61, c62, c63, c64, c65, c66, c67, c68, c69, c70, c71, c72, c73, c74, c75, c76, c77, c78, c79, c80, c81, c82, c83, c84, c85, c86, c87, c88, c89, c90, c91, c92, c93, c94, c95, c96, c97, c98, c99, c100, c101, c102, c103, c104, c105, c106, c107, c108, c109, c110, c111, c112, c113, c114, c115, c116, c117, c118, c119, c120, c121, c122, c123, c124, c125, c126, c127, c128, c129, c130, c131, c132, c133, c134, c135, c136, c137, c138, c139], []⟩ w0 := by
  have i0 : (0 : Int) ≤ (i : Int) ∧ (i : Int) < (L : Int) := by omega
  unfold mkO
  conv => arg 2; whnf
  go_wp2_with fail
  first | exact ⟨_, _, _, _, _, _, _, rfl, rfl⟩ | exact ⟨⟨_, _, _, _, _, _, _, rfl⟩, rfl⟩
set_option maxHeartbeats 8000000 in
set_option maxRecDepth 1000000 in
theorem wt_1 {n : Nat} {w0 : World} (c0 c1 c2 c3 c4 c5 c6 c7 c8 c10 c11 c12 c13 c14 c15 c16 c17 c18 c19 c20 c21 c22 c23 c24 c25 c26 c27 c28 c29 c30 c31 c32 c33 c34 c35 c36 c37 c38 c39 c40 c41 c42 c43 c44 c45 c46 c47 c48 c49 c50 c51 c52 c53 c54 c55 c56 c57 c58 c59 c60 c61 c62 c63 c64 c65 c66 c67 c68 c69 c70 c71 c72 c73 c74 c75 c76 c77 c78 c79 c80 c81 c82 c83 c84 c85 c86 c87 c88 c89 c90 c91 c92 c93 c94 c95 c96 c97 c98 c99 c100 c101 c102 c103 c104 c105 c106 c107 c108 c109 c110 c111 c112 c113 c114 c115 c116 c117 c118 c119 c120 c121 c122 c123 c124 c125 c126 c127 c128 c129 c130 c131 c132 c133 c134 c135 c136 c137 c138 c139 : Value) (hn : n ≤ 100) :
    Code.wp Tryz.prog (headOf (behindN 1 ((Tryz.f16.body.bind (blkNo 3)).getD .skip))) (JN (fun a' w' => ∃ (u73 u74 : Value), a' = ⟨#[c0, c1, c2, c3, c4, c5, c6, c7, c8, .int .i64 ((n : Int) + 1), c10, c11, c12, c13, c14, c15, c16, c17, c18, c19, c20, c21, c22, c23, c24, c25, c26, c27, c28, c29, c30, c31, c32, c33, c34, c35, c36, c37, c38, c39, c40, c41, c42, c43, c44, c45, c46, c47, c48, c49, c50, c51, c52, c53, c54, c55, c56, c57, c58, c59, c60, c61, c62, c63, c64, c65, c66, c67, c68, c69, c70, c71, c72, u73, u74, c75, c76, c77, c78, c79, c80, c81, c82, c83, c84, c85, c86, c87, c88, c89, c90, c91, c92, c93, c94, c95, c96, c97, c98, c99, c100, c101, c102, c103, c104, c105, c106, c107, c108, c109, c110, c111, c112, c113, c114, c115, c116, c117, c118, c119, c120, c121, c122, c123, c124, c125, c126, c127, c128, c129, c130, c131, c132, c133, c134, c135, c136, c137, c138, c139], []⟩ ∧ w' = w0)) ⟨#[c0, c1, c2, c3, c4, c5, c6, c7, c8, .int .i64 (n : Nat), c10, c11, c12, c13, c14, c15, c16, c17, c18, c19, c20, c21, c22, c23, c24, c25, c26, c27, c28, c29, c30, c31, c32, c33, c34, c35, c36, c37, c38, c39, c40, c41, c42, c43, c44, c45, c46, c47, c48, c49, c50, c51, c52, c53, c54, c55, c56, c57, c58, c59, c60, c61, c62, c63, c64, c65, c66, c67, c68, c69, c70, c71, c72, c73, c74, c75, c76, c77, c78, c79, c80, c81, c82, c83, c84, c85, c86, c87, c88, c89, c90, c91, c92, c93, c94, c95, c96, c97, c98, c99, c100, c101, c102, c103, c104, c105, c106, c107, c108, c109, c110, c111, c112, c113, c114, c115, c116, c117, c118, c119, c120, c121, c122, c123, c124, c125, c126, c127, c128, c129, c130, c131, c132, c133, c134, c135, c136, c137, c138, c139], []⟩ w0 := by
  conv => arg 2; whnf
  go_wp2_with fail
  first | exact ⟨_, _, rfl, rfl⟩ | exact ⟨⟨_, _, rfl⟩, rfl⟩
set_option maxHeartbeats 8000000 in
set_option maxRecDepth 1000000 in
theorem wt_2 {w0 : World} (c0 c1 c2 c3 c4 c5 c6 c7 c8 c9 c10 c11 c12 c13 c14 c15 c16 c17 c18 c19 c20 c21 c22 c23 c24 c25 c26 c27 c28 c29 c30 c31 c32 c33 c34 c35 c36 c37 c38 c39 c40 c41 c42 c43 c44 c45 c46 c47 c48 c49 c50 c51 c52 c53 c54 c55 c56 c57 c58 c59 c60 c61 c62 c63 c64 c65 c66 c67 c68 c69 c70 c71 c72 c73 c74 c75 c76 c77 c78 c79 c80 c81 c82 c83 c84 c85 c86 c87 c88 c89 c90 c91 c92 c93 c94 c95 c96 c97 c98 c99 c100 c101 c102 c103 c104 c105 c106 c107 c108 c109 c110 c111 c112 c113 c114 c115 c116 c117 c118 c119 c120 c121 c122 c123 c124 c125 c126 c127 c128 c129 c130 c131 c132 c133 c134 c135 c136 c137 c138 c139 : Value) :
    Code.wp Tryz.prog (headOf (behindN 2 ((Tryz.f16.body.bind (blkNo 3)).getD .skip))) (JN (fun a' w' => a' = ⟨#[c0, c1, c2, c3, c4, c5, c6, c7, c8, c9, c10, c11, S wsDeny, c13, c14, c15, c16, c17, c18, c19, c20, c21, c22, c23, c24, c25, c26, c27, c28, c29, c30, c31, c32, c33, c34, c35, c36, c37, c38, c39, c40, c41, c42, c43, c44, c45, c46, c47, c48, c49, c50, c51, c52, c53, c54, c55, c56, c57, c58, c59, c60, c61, c62, c63, c64, c65, c66, c67, c68, c69, c70, c71, c72, c73, c74, c75, c76, c77, c78, c79, c80, c81, c82, c83, c84, c85, c86, c87, c88, c89, c90, c91, c92, c93, c94, c95, c96, c97, c98, c99, c100, c101, c102, c103, c104, c105, c106, c107, c108, c109, c110, c111, c112, c113, c114, c115, c116, c117, c118, c119, c120, c121, c122, c123, c124, c125, c126, c127, c128, c129, c130, c131, c132, c133, c134, c135, c136, c137, c138, c139], []⟩ ∧ w' = w0)) ⟨#[c0, c1, c2, c3, c4, c5, c6, c7, c8, c9, c10, c11, c12, c13, c14, c15, c16, c17, c18, c19, c20, c21, c22, c23, c24, c25, c26, c27, c28, c29, c30, c31, c32, c33, c34, c35, c36, c37, c38, c39, c40, c41, c42, c43, c44, c45, c46, c47, c48, c49, c50, c51, c52, c53, c54, c55, c56, c57, c58, c59, c60, c61, c62, c63, c64, c65, c66, c67, c68, c69, c70, c71, c72, c73, c74, c75, c76, c77, c78, c79, c80, c81, c82, c83, c84, c85, c86, c87, c88, c89, c90, c91, c92, c93, c94, c95, c96, c97, c98, c99, c100, c101, c102, c103, c104, c105, c106, c107, c108, c109, c110, c111, c112, c113, c114, c115, c116, c117, c118, c119, c120, c121, c122, c123, c124, c125, c126, c127, c128, c129, c130, c131, c132, c133, c134, c135, c136, c137, c138, c139], []⟩ w0 := by
  conv => arg 2; whnf
  go_wp2_with fail
  exact ⟨rfl, rfl⟩
set_option maxHeartbeats 8000000 in
set_option maxRecDepth 1000000 in
theorem wt_3 {xb i : Nat} {m : Mk} {w0 : World} (c0 c1 c2 c3 c4 c5 c6 c7 c8 c9 c13 c14 c15 c16 c17 c18 c19 c20 c21 c22 c23 c24 c25 c26 c27 c28 c29 c30 c31 c32 c33 c34 c35 c36 c37 c38 c39 c40 c41 c42 c43 c44 c45 c46 c47 c48 c49 c50 c51 c52 c53 c54 c55 c56 c57 c58 c59 c60 c61 c62 c63 c64 c65 c66 c67 c68 c69 c70 c71 c72 c73 c74 c75 c76 c77 c78 c79 c80 c81 c82 c83 c84 c85 c86 c87 c88 c89 c90 c91 c92 c93 c94 c95 c96 c97 c98 c99 c100 c101 c102 c103 c104 c105 c106 c107 c108 c109 c110 c111 c112 c113 c114 c115 c116 c117 c118 c119 c120 c121 c122 c123 c124 c125 c126 c127 c128 c129 c130 c131 c132 c133 c134 c135 c136 c137 c138 c139 : Value) (hx : MkAt w0 xb m) (hm : m.text.length ≤ 1000) (hi : i ≤ 1000) :
    Code.wp Tryz.prog (headOf (behindN 3 ((Tryz.f16.body.bind (blkNo 3)).getD .skip))) (JN (fun a' w' => ∃ (u75 u76 u77 u78 u79 u80 u81 : Value), a' = ⟨#[c0, c1, c2, c3, c4, c5, c6, c7, c8, c9, .int .i64 (i : Nat), .pointer (some ⟨xb, 0, none⟩), S (headA ((m.text.length + i) % 2 == 0)), c13, c14, c15, c16, c17, c18, c19, c20, c21, c22, c23, c24, c25, c26, c27, c28, c29, c30, c31, c32, c33, c34, c35, c36, c37, c38, c39, c40, c41, c42, c43, c44, c45, c46, c47, c48, c49, c50, c51, c52, c53, c54, c55, c56, c57, c58, c59, c60, c61, c62, c63, c64, c65, c66, c67, c68, c69, c70, c71, c72, c73, c74, u75, u76, u77, u78, u79, u80, u81, c82, c83, c84, c85, c86, c87, c88, c89, c90, c91, c92, c93, c94, c95, c96, c97, c98, c99, c100, c101, c102, c103, c104, c105, c106, c107, c108, c109, c110, c111, c112, c113, c114, c115, c116, c117, c118, c119, c120, c121, c122, c123, c124, c125, c126, c127, c128, c129, c130, c131, c132, c133, c134, c135, c136, c137, c138, c139], []⟩ ∧ w' = w0)) ⟨#[c0, c1, c2, c3, c4, c5, c6, c7, c8, c9, .int .i64 (i : Nat), .pointer (some ⟨xb, 0, none⟩), S wsDeny, c13, c14, c15, c16, c17, c18, c19, c20, c21, c22, c23, c24, c25, c26, c27, c28, c29, c30, c31, c32, c33, c34, c35, c36, c37, c38, c39, c40, c41, c42, c43, c44, c45, c46, c47, c48, c49, c50, c51, c52, c53, c54, c55, c56, c57, c58, c59, c60, c61, c62, c63, c64, c65, c66, c67, c68, c69, c70, c71, c72, c73, c74, c75, c76, c77, c78, c79, c80, c81, c82, c83, c84, c85, c86, c87, c88, c89, c90, c91, c92, c93, c94, c95, c96, c97, c98, c99, c100, c101, c102, c103, c104, c105, c106, c107, c108, c109, c110, c111, c112, c113, c114, c115, c116, c117, c118, c119, c120, c121, c122, c123, c124, c125, c126, c127, c128, c129, c130, c131, c132, c133, c134, c135, c136, c137, c138, c139], []⟩ w0 := by
  obtain ⟨x0, _, _, _⟩ := mk_cells hx
  clear hx
  by_cases h : (m.text.length + i) % 2 = 0
  · have h1 : (((m.text.length : Int) + (i : Int)) % 2 == 0) = true := by simp; omega
    have HE : Hid (headA ((m.text.length + i) % 2 == 0) = wsAllow) := by show _ = _; rw [h]; rfl
    rw [HE.out]
    clear h HE
    conv => arg 2; whnf
    go_wp2_with fail
    first | exact ⟨_, _, _, _, _, _, _, rfl, rfl⟩ | exact ⟨⟨_, _, _, _, _, _, _, rfl⟩, rfl⟩
  · have h1 : (((m.text.length : Int) + (i : Int)) % 2 == 0) = false := by simp; omega
    have HE : Hid (headA ((m.text.length + i) % 2 == 0) = wsDeny) := by
      show _ = _
      have : ((m.text.length + i) % 2 == 0) = false := by simpa using h
      rw [this]; rfl
    rw [HE.out]
    clear h HE
    conv => arg 2; whnf
    go_wp2_with fail
    first | exact ⟨_, _, _, _, _, _, _, rfl, rfl⟩ | exact ⟨⟨_, _, _, _, _, _, _, rfl⟩, rfl⟩
end Go.Proofs.YtfkdailfcmnjlaaGreatDoor
