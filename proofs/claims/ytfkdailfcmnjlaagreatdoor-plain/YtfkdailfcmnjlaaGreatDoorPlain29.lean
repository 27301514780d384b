/-
  Conditions made of those there are: kind 6. Conditions made of those there are: kind 7. Conditions made of those there are: kind 8. Conditions made of those there are: kind 9.
-/
import Derived.Test.YtfkdailfcmnjlaaGreatDoorPlain01
import Derived.Test.YtfkdailfcmnjlaaGreatDoorPlain02
import Derived.Test.YtfkdailfcmnjlaaGreatDoorPlain03
import Derived.Test.YtfkdailfcmnjlaaGreatDoorPlain04
import Derived.Test.YtfkdailfcmnjlaaGreatDoorPlain05
import Derived.Test.YtfkdailfcmnjlaaGreatDoorPlain06
import Derived.Test.YtfkdailfcmnjlaaGreatDoorPlain07
import Derived.Test.YtfkdailfcmnjlaaGreatDoorPlain08
import Derived.Test.YtfkdailfcmnjlaaGreatDoorPlain09
import Derived.Test.YtfkdailfcmnjlaaGreatDoorPlain10
import Derived.Test.YtfkdailfcmnjlaaGreatDoorPlain11
import Derived.Test.YtfkdailfcmnjlaaGreatDoorPlain12
import Derived.Test.YtfkdailfcmnjlaaGreatDoorPlain13
import Derived.Test.YtfkdailfcmnjlaaGreatDoorPlain14
import Derived.Test.YtfkdailfcmnjlaaGreatDoorPlain15
import Derived.Test.YtfkdailfcmnjlaaGreatDoorPlain16
import Derived.Test.YtfkdailfcmnjlaaGreatDoorPlain17
import Derived.Test.YtfkdailfcmnjlaaGreatDoorPlain18
import Derived.Test.YtfkdailfcmnjlaaGreatDoorPlain19
import Derived.Test.YtfkdailfcmnjlaaGreatDoorPlain20
import Derived.Test.YtfkdailfcmnjlaaGreatDoorPlain21
import Derived.Test.YtfkdailfcmnjlaaGreatDoorPlain22
import Derived.Test.YtfkdailfcmnjlaaGreatDoorPlain23
import Derived.Test.YtfkdailfcmnjlaaGreatDoorPlain24
import Derived.Test.YtfkdailfcmnjlaaGreatDoorPlain25
import Derived.Test.YtfkdailfcmnjlaaGreatDoorPlain26
import Derived.Test.YtfkdailfcmnjlaaGreatDoorPlain27
import Derived.Test.YtfkdailfcmnjlaaGreatDoorLays
import Derived.Test.YtfkdailfcmnjlaaGreatDoorLays2
import Derived.WalkKit
import Derived.Deep.QuietTactic
import Derived.BigQuiet
import Derived.WalkSpells
import GoSem.Op.String
import Derived.Deep.AppendLies
import Derived.Deep.RegionHeld3
import Derived.Deep.DrawnRows
import Derived.Deep.RegionHeldLaw
import Derived.Deep.RegionLaw
import Derived.Lib.ParseIntBCases
import Derived.Deep.OwnRows
import Derived.Lib.LaidTab
import Derived.Lib.AppendIntMem
import Derived.Shelf.Strings.Builder1
import Derived.Laws.CopyOwn
import Derived.Deep.DeepCutAuto
import Derived.WalkSmall
import Derived.Lib.AppendZerosOnto
import Derived.Shelf.Abstract
set_option linter.unusedVariables false
set_option linter.unusedSimpArgs false
namespace Go.Proofs.YtfkdailfcmnjlaaGreatDoor
open Go Go.RowKit
set_option maxRecDepth 100000
attribute [local go_sem ↓] Go.wp_at_zero Go.wp_at_succ

set_option maxHeartbeats 8000000 in
set_option maxRecDepth 1000000 in
theorem sw_6 {ga gb gm gk gx gy gz : Nat} {w0 : World} {a b m k x y : Mk} (c0 c1 c2 c3 c4 c5 c6 c7 c8 c9 c10 c18 c19 c20 c21 c22 c23 c24 c25 c26 c27 c28 c29 c30 c31 c32 c33 c34 c35 c36 c37 c38 c39 c40 c41 c42 c43 c44 c45 c46 c47 c48 c49 c50 c51 c52 c53 c54 c55 c56 c57 c58 c59 c60 c61 c62 c63 c64 c65 c67 c68 c69 c70 c71 c72 c73 c74 c75 c76 c77 c78 c79 c80 c81 c82 c83 c84 c85 c86 c87 c88 c89 c90 c91 c92 c93 c94 c95 c96 c97 c98 c99 c100 c101 c102 c103 c104 c105 c106 c107 c108 c109 c110 c111 c112 c113 c114 c115 c116 c117 c118 c119 c120 c121 c122 c123 c124 c125 c126 c127 c128 c129 c130 c131 c132 c133 c134 c135 c136 c137 c138 c139 c140 c141 c142 c143 c144 c145 c146 c147 c148 c149 c150 c151 c152 c153 c154 c155 c156 c157 c158 c159 c160 c161 c162 c163 c164 c165 c166 c167 c168 c169 c170 c171 c172 c173 c174 c175 c176 c177 c178 c179 c180 c181 c182 c183 c184 c185 c186 c187 c188 c189 c190 c191 c192 c193 c194 c195 c196 c197 c198 c199 c200 c201 c202 c203 c204 c205 c206 c207 c208 c209 c210 c211 c212 c213 c214 c215 c216 c217 c218 c219 c220 c221 c222 c223 c224 : Value) (HI : SwI w0 ga gb gm gk gx gy gz a b m k x y) :
    Code.wp Tryz.prog ((Tryz.f38.body.bind blkIn).getD .skip) (JN (fun a' w' => ∃ (u67 u68 u69 u70 u71 u72 u73 u74 u75 u76 u77 u78 u79 u80 u81 u82 u83 u84 u85 u86 u87 u88 u89 u90 u91 u92 u93 u94 u95 u96 u97 u98 u99 u100 u101 u102 u103 u104 u105 u106 u107 u108 u109 u110 u111 u112 u113 u114 u115 u116 u117 u118 u119 u120 u121 u122 u123 u124 u125 u126 u127 u128 u129 u130 u131 u132 u133 u134 u135 u136 u137 u138 u139 u140 u141 u142 u143 u144 u145 u146 u147 u148 u149 u150 u151 u152 u153 u154 u155 u156 u157 u158 u159 u160 u161 u162 u163 u164 u165 u166 u167 u168 u169 u170 u171 u172 u173 u174 u175 u176 u177 u178 u179 : Value), a' = ⟨#[c0, c1, c2, c3, c4, c5, c6, c7, c8, c9, c10, .pointer (some ⟨ga, 0, none⟩), .pointer (some ⟨gb, 0, none⟩), .pointer (some ⟨gm, 0, none⟩), .pointer (some ⟨gk, 0, none⟩), .pointer (some ⟨gx, 0, none⟩), .pointer (some ⟨gy, 0, none⟩), .pointer (some ⟨gz, 0, none⟩), c18, c19, c20, c21, c22, c23, c24, c25, c26, c27, c28, c29, c30, c31, c32, c33, c34, c35, c36, c37, c38, c39, c40, c41, c42, c43, c44, c45, c46, c47, c48, c49, c50, c51, c52, c53, c54, c55, c56, c57, c58, c59, c60, c61, c62, c63, c64, c65, .int .i64 6, u67, u68, u69, u70, u71, u72, u73, u74, u75, u76, u77, u78, u79, u80, u81, u82, u83, u84, u85, u86, u87, u88, u89, u90, u91, u92, u93, u94, u95, u96, u97, u98, u99, u100, u101, u102, u103, u104, u105, u106, u107, u108, u109, u110, u111, u112, u113, u114, u115, u116, u117, u118, u119, u120, u121, u122, u123, u124, u125, u126, u127, u128, u129, u130, u131, u132, u133, u134, u135, u136, u137, u138, u139, u140, u141, u142, u143, u144, u145, u146, u147, u148, u149, u150, u151, u152, u153, u154, u155, u156, u157, u158, u159, u160, u161, u162, u163, u164, u165, u166, u167, u168, u169, u170, u171, u172, u173, u174, u175, u176, u177, u178, u179, c180, c181, c182, c183, c184, c185, c186, c187, c188, c189, c190, c191, c192, c193, c194, c195, c196, c197, c198, c199, c200, c201, c202, c203, c204, c205, c206, c207, c208, c209, c210, c211, c212, c213, c214, c215, c216, c217, c218, c219, c220, c221, c222, c223, c224], []⟩ ∧ MkAt w' gz (gM 6 a b m k x y) ∧ Below gz w0 w')) ⟨#[c0, c1, c2, c3, c4, c5, c6, c7, c8, c9, c10, .pointer (some ⟨ga, 0, none⟩), .pointer (some ⟨gb, 0, none⟩), .pointer (some ⟨gm, 0, none⟩), .pointer (some ⟨gk, 0, none⟩), .pointer (some ⟨gx, 0, none⟩), .pointer (some ⟨gy, 0, none⟩), .pointer (some ⟨gz, 0, none⟩), c18, c19, c20, c21, c22, c23, c24, c25, c26, c27, c28, c29, c30, c31, c32, c33, c34, c35, c36, c37, c38, c39, c40, c41, c42, c43, c44, c45, c46, c47, c48, c49, c50, c51, c52, c53, c54, c55, c56, c57, c58, c59, c60, c61, c62, c63, c64, c65, .int .i64 6, c67, c68, c69, c70, c71, c72, c73, c74, c75, c76, c77, c78, c79, c80, c81, c82, c83, c84, c85, c86, c87, c88, c89, c90, c91, c92, c93, c94, c95, c96, c97, c98, c99, c100, c101, c102, c103, c104, c105, c106, c107, c108, c109, c110, c111, c112, c113, c114, c115, c116, c117, c118, c119, c120, c121, c122, c123, c124, c125, c126, c127, c128, c129, c130, c131, c132, c133, c134, c135, c136, c137, c138, c139, c140, c141, c142, c143, c144, c145, c146, c147, c148, c149, c150, c151, c152, c153, c154, c155, c156, c157, c158, c159, c160, c161, c162, c163, c164, c165, c166, c167, c168, c169, c170, c171, c172, c173, c174, c175, c176, c177, c178, c179, c180, c181, c182, c183, c184, c185, c186, c187, c188, c189, c190, c191, c192, c193, c194, c195, c196, c197, c198, c199, c200, c201, c202, c203, c204, c205, c206, c207, c208, c209, c210, c211, c212, c213, c214, c215, c216, c217, c218, c219, c220, c221, c222, c223, c224], []⟩ w0 := by
  have H1 := HI.ox
  have H2 := HI.oy
  have l1 := HI.lx
  have l2 := HI.ly
  have hz := HI.oz
  obtain ⟨p1, p2, p3, p4⟩ := HI.sx
  obtain ⟨q1, q2, q3, q4⟩ := HI.sy
  have tx := HI.tx
  clear HI
  have W1 := fun W : World => ktruth_any (x.told == 1 && y.told == 1) W
  have W2 := fun W : World => both_any x [97, 110, 100] y (truthI (x.told == 1 && y.told == 1)) ⟨p1, p2, p3⟩ ⟨q1, q2, q3⟩ (by decide) W
  have HR : Hid (gM 6 a b m k x y = bothM x [97, 110, 100] y (truthI (x.told == 1 && y.told == 1))) := rfl
  rw [HR.out]
  clear HR
  generalize bothM x [97, 110, 100] y (truthI (x.told == 1 && y.told == 1)) = r at *
  generalize (truthI (x.told == 1 && y.told == 1)) = t at *
  have hgz : gz < w0.heap.size := lt_of_get hz
  have hS0 : Below gz w0 w0 := Below.refl _ _
  have E1 : ∀ W, Below gz w0 W → W.cell? ⟨gx, 0, none⟩ = some (S x.text) := fun W h => (mk_cells (mk_below H1 h l1)).1
  have E2 : ∀ W, Below gz w0 W → W.cell? ⟨gx, 1, none⟩ = some (S x.bare) := fun W h => (mk_cells (mk_below H1 h l1)).2.1
  have E3 : ∀ W, Below gz w0 W → W.cell? ⟨gx, 2, none⟩ = some (.int .i64 x.told) := fun W h => (mk_cells (mk_below H1 h l1)).2.2.1
  have E4 : ∀ W, Below gz w0 W → W.cell? ⟨gx, 3, none⟩ = some (.int .i64 (x.deep : Nat)) := fun W h => (mk_cells (mk_below H1 h l1)).2.2.2
  have E5 : ∀ W, Below gz w0 W → W.cell? ⟨gy, 0, none⟩ = some (S y.text) := fun W h => (mk_cells (mk_below H2 h l2)).1
  have E6 : ∀ W, Below gz w0 W → W.cell? ⟨gy, 1, none⟩ = some (S y.bare) := fun W h => (mk_cells (mk_below H2 h l2)).2.1
  have E7 : ∀ W, Below gz w0 W → W.cell? ⟨gy, 2, none⟩ = some (.int .i64 y.told) := fun W h => (mk_cells (mk_below H2 h l2)).2.2.1
  have E8 : ∀ W, Below gz w0 W → W.cell? ⟨gy, 3, none⟩ = some (.int .i64 (y.deep : Nat)) := fun W h => (mk_cells (mk_below H2 h l2)).2.2.2
  have KZ : Hid (∀ W' : World, Below w0.heap.size w0 W' → MkAt W' gz noMk) := fun W' h => mk_below hz h hgz
  have KD : Hid (∀ W : World, Below gz w0 W → Below gz w0 W.drew) := fun W h => h.drew
  have KA : Hid (∀ (W : World) (o : Obj), Below gz w0 W → Below gz w0 (W.alloc o)) := fun W o h => h.alloc (by have := h.size; omega) _
  have KS : Hid (∀ (W : World) (a : Addr) (u : Value), gz ≤ a.block → Below gz w0 W → Below gz w0 (W.setCell a u)) := fun W a u h h' => h'.setCell h _
  have KB : Hid (∀ W W' : World, Below gz w0 W → Below W.heap.size W W' → Below gz w0 W') := fun W W' h h' => h.trans (h'.mono (by have := h.size; omega))
  unfold mkV at W2
  clear H1 H2 hz p1 p2 p3 p4 q1 q2 q3 q4
  rcases tx with tx | tx
  · have hx1 : (x.told == 1) = false := by rw [tx]; rfl
    rw [hx1] at W1
    simp only [Bool.false_and] at W1
    clear tx
    conv => arg 2; whnf
    go_upto_region 23 with fail
    refine wp_region_held_drew (S := fun W => Below gz w0 W) (by kernel_rfl) hS0.drew (fun hHeld => ?_)
    refine wpAnyH_take (i := 0) (v := .agg #[S x.text, S x.bare, .int .i64 x.told, .int .i64 (x.deep : Nat)]) rfl (by kernel_rfl) (by kernel_rfl) (by kernel_rfl) (fun _ _ _ h => h) (Or.inl ⟨by rfl, fun w hSw => ?_⟩) hHeld ?_
    · dsimp only at hSw; have s1 := E1 w hSw; have s2 := E2 w hSw; have s3 := E3 w hSw; have s4 := E4 w hSw; clear E1 E2 E3 E4 E5 E6 E7 E8; go_simp
    simp only [List.getElem_toArray, List.getElem_cons_zero, List.getElem_cons_succ, Act.put, List.setIfInBounds_toArray, List.set_cons_zero, List.set_cons_succ]
    refine wpAnyH_take (i := 1) (v := .agg #[S y.text, S y.bare, .int .i64 y.told, .int .i64 (y.deep : Nat)]) rfl (by kernel_rfl) (by kernel_rfl) (by kernel_rfl) (fun _ _ _ h => h) (Or.inl ⟨by rfl, fun w hSw => ?_⟩) hHeld ?_
    · dsimp only at hSw; have s5 := E5 w hSw; have s6 := E6 w hSw; have s7 := E7 w hSw; have s8 := E8 w hSw; clear E1 E2 E3 E4 E5 E6 E7 E8; go_simp
    simp only [List.getElem_toArray, List.getElem_cons_zero, List.getElem_cons_succ, Act.put, List.setIfInBounds_toArray, List.set_cons_zero, List.set_cons_succ]
    refine wpAnyH_take (i := 2) (v := .pointer (some ⟨gx, 2, none⟩)) rfl (by kernel_rfl) (by kernel_rfl) (by kernel_rfl) (fun _ _ _ h => h) (Or.inl ⟨by rfl, fun w hSw => ?_⟩) hHeld ?_
    · dsimp only at hSw; clear E1 E2 E3 E4 E5 E6 E7 E8; go_simp
    simp only [List.getElem_toArray, List.getElem_cons_zero, List.getElem_cons_succ, Act.put, List.setIfInBounds_toArray, List.set_cons_zero, List.set_cons_succ]
    refine wpAnyH_take (i := 3) (v := .int .i64 x.told) rfl (by kernel_rfl) (by kernel_rfl) (by kernel_rfl) (fun _ _ _ h => h) (Or.inl ⟨by rfl, fun w hSw => ?_⟩) hHeld ?_
    · dsimp only at hSw; have s3 := E3 w hSw; clear E1 E2 E3 E4 E5 E6 E7 E8; go_simp
    simp only [List.getElem_toArray, List.getElem_cons_zero, List.getElem_cons_succ, Act.put, List.setIfInBounds_toArray, List.set_cons_zero, List.set_cons_succ]
    refine wpAnyH_take (i := 4) (v := .bool false) rfl (by kernel_rfl) (by kernel_rfl) (by kernel_rfl) (fun _ _ _ h => h) (Or.inl ⟨by rfl, fun w hSw => ?_⟩) hHeld ?_
    · dsimp only at hSw; clear E1 E2 E3 E4 E5 E6 E7 E8; go_simp
    simp only [List.getElem_toArray, List.getElem_cons_zero, List.getElem_cons_succ, Act.put, List.setIfInBounds_toArray, List.set_cons_zero, List.set_cons_succ]
    refine wpAnyH_take (i := 5) (v := .bool false) rfl (by kernel_rfl) (by kernel_rfl) (by kernel_rfl) (fun _ _ _ h => h) (Or.inl ⟨by rfl, fun w hSw => ?_⟩) hHeld ?_
    · dsimp only at hSw; clear E1 E2 E3 E4 E5 E6 E7 E8; go_simp
    simp only [List.getElem_toArray, List.getElem_cons_zero, List.getElem_cons_succ, Act.put, List.setIfInBounds_toArray, List.set_cons_zero, List.set_cons_succ]
    refine wpAnyH_take (i := 6) (v := undef) rfl (by kernel_rfl) (by kernel_rfl) (by kernel_rfl) (fun _ _ _ h => h) (Or.inr ⟨by rfl, rfl⟩) hHeld ?_
    simp only [List.getElem_toArray, List.getElem_cons_zero, List.getElem_cons_succ, Act.put, List.setIfInBounds_toArray, List.set_cons_zero, List.set_cons_succ]
    refine wpAnyH_take (i := 7) (v := undef) rfl (by kernel_rfl) (by kernel_rfl) (by kernel_rfl) (fun _ _ _ h => h) (Or.inr ⟨by rfl, rfl⟩) hHeld ?_
    simp only [List.getElem_toArray, List.getElem_cons_zero, List.getElem_cons_succ, Act.put, List.setIfInBounds_toArray, List.set_cons_zero, List.set_cons_succ]
    refine wpAnyH_take (i := 8) (v := undef) rfl (by kernel_rfl) (by kernel_rfl) (by kernel_rfl) (fun _ _ _ h => h) (Or.inr ⟨by rfl, rfl⟩) hHeld ?_
    simp only [List.getElem_toArray, List.getElem_cons_zero, List.getElem_cons_succ, Act.put, List.setIfInBounds_toArray, List.set_cons_zero, List.set_cons_succ]
    refine wpAnyH_take (i := 9) (v := .bool false) rfl (by kernel_rfl) (by kernel_rfl) (by kernel_rfl) (fun _ _ _ h => h) (Or.inl ⟨by rfl, fun w hSw => ?_⟩) hHeld ?_
    · dsimp only at hSw; clear E1 E2 E3 E4 E5 E6 E7 E8; go_simp
    simp only [List.getElem_toArray, List.getElem_cons_zero, List.getElem_cons_succ, Act.put, List.setIfInBounds_toArray, List.set_cons_zero, List.set_cons_succ]
    refine wpAnyH_ready (rs := [10]) (by kernel_rfl) (by simp) ?_
    refine AllReadyH.cons rfl (fun K hK => ?_) AllReadyH.nil
    go_simp
    refine (W1 _).mono ?_
    rintro e w2 ⟨rfl, rfl⟩
    dsimp only
    refine hK.out _ _ hHeld (fun hHeld => ?_)
    clear hK
    try simp only [List.getElem_toArray, List.getElem_cons_zero, List.getElem_cons_succ, Act.put, List.setIfInBounds_toArray, List.set_cons_zero, List.set_cons_succ]
    refine wpAnyH_ready (rs := [11]) (by kernel_rfl) (by simp) ?_
    refine AllReadyH.cons rfl (fun K hK => ?_) AllReadyH.nil
    go_simp
    refine (W2 _).mono ?_
    rintro e w1 ⟨rfl, hb1⟩
    dsimp only
    have HZ1 : Hid _ := KZ.out w1 ⟨hb1.os, hb1.tape, hb1.output, hb1.size, hb1.block⟩
    obtain ⟨z0, z1, z2, z3⟩ := mk_cells HZ1.out
    obtain ⟨f0, f1, f2, f3⟩ := mk_free HZ1.out
    refine hK.out _ _ (KB.out _ _ hHeld hb1) (fun hHeld => ?_)
    clear hK hb1
    try simp only [List.getElem_toArray, List.getElem_cons_zero, List.getElem_cons_succ, Act.put, List.setIfInBounds_toArray, List.set_cons_zero, List.set_cons_succ]
    refine wpAnyH_ready (rs := [12]) (by kernel_rfl) (by simp) ?_
    refine AllReadyH.cons rfl (fun K hK => ?_) AllReadyH.nil
    go_simp
    refine hK.out _ _ (set_below hHeld) (fun hHeld => ?_)
    clear hK
    refine wpAnyH_done (by kernel_rfl) ?_ _
    go_wp2_with fail
    first | exact ⟨_, _, _, _, _, _, _, _, _, _, _, _, _, _, _, _, _, _, _, _, _, _, _, _, _, _, _, _, _, _, _, _, _, _, _, _, _, _, _, _, _, _, _, _, _, _, _, _, _, _, _, _, _, _, _, _, _, _, _, _, _, _, _, _, _, _, _, _, _, _, _, _, _, _, _, _, _, _, _, _, _, _, _, _, _, _, _, _, _, _, _, _, _, _, _, _, _, _, _, _, _, _, _, _, _, _, _, _, _, _, _, _, _, rfl, by first | exact mk_set HZ1.out | exact mk_drew (mk_set HZ1.out), hHeld⟩ | exact ⟨⟨_, _, _, _, _, _, _, _, _, _, _, _, _, _, _, _, _, _, _, _, _, _, _, _, _, _, _, _, _, _, _, _, _, _, _, _, _, _, _, _, _, _, _, _, _, _, _, _, _, _, _, _, _, _, _, _, _, _, _, _, _, _, _, _, _, _, _, _, _, _, _, _, _, _, _, _, _, _, _, _, _, _, _, _, _, _, _, _, _, _, _, _, _, _, _, _, _, _, _, _, _, _, _, _, _, _, _, _, _, _, _, _, _, rfl⟩, by first | exact mk_set HZ1.out | exact mk_drew (mk_set HZ1.out), hHeld⟩
  · have hx1 : (x.told == 1) = true := by rw [tx]; rfl
    rw [hx1] at W1
    simp only [Bool.true_and] at W1
    clear tx
    conv => arg 2; whnf
    go_upto_region 23 with fail
    go_region_held3 (fun W => Below gz w0 W) (first | assumption | (repeat' first | exact hS0 | with_reducible assumption | with_reducible apply KD.out | with_reducible apply KA.out | (with_reducible refine KS.out _ _ _ (Nat.le_refl _) ?_) | exact KB.out _ _ hS0 (by assumption) | exact KB.out _ _ (KD.out _ hS0) (by assumption)))
      (first
        | (go_at_call 76; refine (W1 _).mono ?_; rintro e w' ⟨rfl, rfl⟩)
        | (go_at_call 73; refine (W2 _).mono ?_; rintro e w1 ⟨rfl, hb1⟩; have HZ1 : Hid _ := KZ.out w1 ⟨hb1.os, hb1.tape, hb1.output, hb1.size, hb1.block⟩; obtain ⟨z0, z1, z2, z3⟩ := mk_cells HZ1.out; obtain ⟨f0, f1, f2, f3⟩ := mk_free HZ1.out))
    all_goals
      rename_i hHeld
      first | exact ⟨_, _, _, _, _, _, _, _, _, _, _, _, _, _, _, _, _, _, _, _, _, _, _, _, _, _, _, _, _, _, _, _, _, _, _, _, _, _, _, _, _, _, _, _, _, _, _, _, _, _, _, _, _, _, _, _, _, _, _, _, _, _, _, _, _, _, _, _, _, _, _, _, _, _, _, _, _, _, _, _, _, _, _, _, _, _, _, _, _, _, _, _, _, _, _, _, _, _, _, _, _, _, _, _, _, _, _, _, _, _, _, _, _, rfl, by first | exact mk_set HZ1.out | exact mk_drew (mk_set HZ1.out), hHeld⟩ | exact ⟨⟨_, _, _, _, _, _, _, _, _, _, _, _, _, _, _, _, _, _, _, _, _, _, _, _, _, _, _, _, _, _, _, _, _, _, _, _, _, _, _, _, _, _, _, _, _, _, _, _, _, _, _, _, _, _, _, _, _, _, _, _, _, _, _, _, _, _, _, _, _, _, _, _, _, _, _, _, _, _, _, _, _, _, _, _, _, _, _, _, _, _, _, _, _, _, _, _, _, _, _, _, _, _, _, _, _, _, _, _, _, _, _, _, _, rfl⟩, by first | exact mk_set HZ1.out | exact mk_drew (mk_set HZ1.out), hHeld⟩
end Go.Proofs.YtfkdailfcmnjlaaGreatDoor

namespace Go.Proofs.YtfkdailfcmnjlaaGreatDoor
open Go Go.RowKit
set_option maxRecDepth 100000
attribute [local go_sem ↓] Go.wp_at_zero Go.wp_at_succ

set_option maxHeartbeats 8000000 in
set_option maxRecDepth 1000000 in
theorem sw_7 {ga gb gm gk gx gy gz : Nat} {w0 : World} {a b m k x y : Mk} (c0 c1 c2 c3 c4 c5 c6 c7 c8 c9 c10 c18 c19 c20 c21 c22 c23 c24 c25 c26 c27 c28 c29 c30 c31 c32 c33 c34 c35 c36 c37 c38 c39 c40 c41 c42 c43 c44 c45 c46 c47 c48 c49 c50 c51 c52 c53 c54 c55 c56 c57 c58 c59 c60 c61 c62 c63 c64 c65 c67 c68 c69 c70 c71 c72 c73 c74 c75 c76 c77 c78 c79 c80 c81 c82 c83 c84 c85 c86 c87 c88 c89 c90 c91 c92 c93 c94 c95 c96 c97 c98 c99 c100 c101 c102 c103 c104 c105 c106 c107 c108 c109 c110 c111 c112 c113 c114 c115 c116 c117 c118 c119 c120 c121 c122 c123 c124 c125 c126 c127 c128 c129 c130 c131 c132 c133 c134 c135 c136 c137 c138 c139 c140 c141 c142 c143 c144 c145 c146 c147 c148 c149 c150 c151 c152 c153 c154 c155 c156 c157 c158 c159 c160 c161 c162 c163 c164 c165 c166 c167 c168 c169 c170 c171 c172 c173 c174 c175 c176 c177 c178 c179 c180 c181 c182 c183 c184 c185 c186 c187 c188 c189 c190 c191 c192 c193 c194 c195 c196 c197 c198 c199 c200 c201 c202 c203 c204 c205 c206 c207 c208 c209 c210 c211 c212 c213 c214 c215 c216 c217 c218 c219 c220 c221 c222 c223 c224 : Value) (HI : SwI w0 ga gb gm gk gx gy gz a b m k x y) :
    Code.wp Tryz.prog ((Tryz.f38.body.bind blkIn).getD .skip) (JN (fun a' w' => ∃ (u67 u68 u69 u70 u71 u72 u73 u74 u75 u76 u77 u78 u79 u80 u81 u82 u83 u84 u85 u86 u87 u88 u89 u90 u91 u92 u93 u94 u95 u96 u97 u98 u99 u100 u101 u102 u103 u104 u105 u106 u107 u108 u109 u110 u111 u112 u113 u114 u115 u116 u117 u118 u119 u120 u121 u122 u123 u124 u125 u126 u127 u128 u129 u130 u131 u132 u133 u134 u135 u136 u137 u138 u139 u140 u141 u142 u143 u144 u145 u146 u147 u148 u149 u150 u151 u152 u153 u154 u155 u156 u157 u158 u159 u160 u161 u162 u163 u164 u165 u166 u167 u168 u169 u170 u171 u172 u173 u174 u175 u176 u177 u178 u179 : Value), a' = ⟨#[c0, c1, c2, c3, c4, c5, c6, c7, c8, c9, c10, .pointer (some ⟨ga, 0, none⟩), .pointer (some ⟨gb, 0, none⟩), .pointer (some ⟨gm, 0, none⟩), .pointer (some ⟨gk, 0, none⟩), .pointer (some ⟨gx, 0, none⟩), .pointer (some ⟨gy, 0, none⟩), .pointer (some ⟨gz, 0, none⟩), c18, c19, c20, c21, c22, c23, c24, c25, c26, c27, c28, c29, c30, c31, c32, c33, c34, c35, c36, c37, c38, c39, c40, c41, c42, c43, c44, c45, c46, c47, c48, c49, c50, c51, c52, c53, c54, c55, c56, c57, c58, c59, c60, c61, c62, c63, c64, c65, .int .i64 7, u67, u68, u69, u70, u71, u72, u73, u74, u75, u76, u77, u78, u79, u80, u81, u82, u83, u84, u85, u86, u87, u88, u89, u90, u91, u92, u93, u94, u95, u96, u97, u98, u99, u100, u101, u102, u103, u104, u105, u106, u107, u108, u109, u110, u111, u112, u113, u114, u115, u116, u117, u118, u119, u120, u121, u122, u123, u124, u125, u126, u127, u128, u129, u130, u131, u132, u133, u134, u135, u136, u137, u138, u139, u140, u141, u142, u143, u144, u145, u146, u147, u148, u149, u150, u151, u152, u153, u154, u155, u156, u157, u158, u159, u160, u161, u162, u163, u164, u165, u166, u167, u168, u169, u170, u171, u172, u173, u174, u175, u176, u177, u178, u179, c180, c181, c182, c183, c184, c185, c186, c187, c188, c189, c190, c191, c192, c193, c194, c195, c196, c197, c198, c199, c200, c201, c202, c203, c204, c205, c206, c207, c208, c209, c210, c211, c212, c213, c214, c215, c216, c217, c218, c219, c220, c221, c222, c223, c224], []⟩ ∧ MkAt w' gz (gM 7 a b m k x y) ∧ Below gz w0 w')) ⟨#[c0, c1, c2, c3, c4, c5, c6, c7, c8, c9, c10, .pointer (some ⟨ga, 0, none⟩), .pointer (some ⟨gb, 0, none⟩), .pointer (some ⟨gm, 0, none⟩), .pointer (some ⟨gk, 0, none⟩), .pointer (some ⟨gx, 0, none⟩), .pointer (some ⟨gy, 0, none⟩), .pointer (some ⟨gz, 0, none⟩), c18, c19, c20, c21, c22, c23, c24, c25, c26, c27, c28, c29, c30, c31, c32, c33, c34, c35, c36, c37, c38, c39, c40, c41, c42, c43, c44, c45, c46, c47, c48, c49, c50, c51, c52, c53, c54, c55, c56, c57, c58, c59, c60, c61, c62, c63, c64, c65, .int .i64 7, c67, c68, c69, c70, c71, c72, c73, c74, c75, c76, c77, c78, c79, c80, c81, c82, c83, c84, c85, c86, c87, c88, c89, c90, c91, c92, c93, c94, c95, c96, c97, c98, c99, c100, c101, c102, c103, c104, c105, c106, c107, c108, c109, c110, c111, c112, c113, c114, c115, c116, c117, c118, c119, c120, c121, c122, c123, c124, c125, c126, c127, c128, c129, c130, c131, c132, c133, c134, c135, c136, c137, c138, c139, c140, c141, c142, c143, c144, c145, c146, c147, c148, c149, c150, c151, c152, c153, c154, c155, c156, c157, c158, c159, c160, c161, c162, c163, c164, c165, c166, c167, c168, c169, c170, c171, c172, c173, c174, c175, c176, c177, c178, c179, c180, c181, c182, c183, c184, c185, c186, c187, c188, c189, c190, c191, c192, c193, c194, c195, c196, c197, c198, c199, c200, c201, c202, c203, c204, c205, c206, c207, c208, c209, c210, c211, c212, c213, c214, c215, c216, c217, c218, c219, c220, c221, c222, c223, c224], []⟩ w0 := by
  have H1 := HI.ox
  have H2 := HI.oy
  have l1 := HI.lx
  have l2 := HI.ly
  have hz := HI.oz
  obtain ⟨p1, p2, p3, p4⟩ := HI.sx
  obtain ⟨q1, q2, q3, q4⟩ := HI.sy
  have tx := HI.tx
  clear HI
  have W1 := fun W : World => ktruth_any (x.told == 1 || y.told == 1) W
  have W2 := fun W : World => both_any x [111, 114] y (truthI (x.told == 1 || y.told == 1)) ⟨p1, p2, p3⟩ ⟨q1, q2, q3⟩ (by decide) W
  have HR : Hid (gM 7 a b m k x y = bothM x [111, 114] y (truthI (x.told == 1 || y.told == 1))) := rfl
  rw [HR.out]
  clear HR
  generalize bothM x [111, 114] y (truthI (x.told == 1 || y.told == 1)) = r at *
  generalize (truthI (x.told == 1 || y.told == 1)) = t at *
  have hgz : gz < w0.heap.size := lt_of_get hz
  have hS0 : Below gz w0 w0 := Below.refl _ _
  have E1 : ∀ W, Below gz w0 W → W.cell? ⟨gx, 0, none⟩ = some (S x.text) := fun W h => (mk_cells (mk_below H1 h l1)).1
  have E2 : ∀ W, Below gz w0 W → W.cell? ⟨gx, 1, none⟩ = some (S x.bare) := fun W h => (mk_cells (mk_below H1 h l1)).2.1
  have E3 : ∀ W, Below gz w0 W → W.cell? ⟨gx, 2, none⟩ = some (.int .i64 x.told) := fun W h => (mk_cells (mk_below H1 h l1)).2.2.1
  have E4 : ∀ W, Below gz w0 W → W.cell? ⟨gx, 3, none⟩ = some (.int .i64 (x.deep : Nat)) := fun W h => (mk_cells (mk_below H1 h l1)).2.2.2
  have E5 : ∀ W, Below gz w0 W → W.cell? ⟨gy, 0, none⟩ = some (S y.text) := fun W h => (mk_cells (mk_below H2 h l2)).1
  have E6 : ∀ W, Below gz w0 W → W.cell? ⟨gy, 1, none⟩ = some (S y.bare) := fun W h => (mk_cells (mk_below H2 h l2)).2.1
  have E7 : ∀ W, Below gz w0 W → W.cell? ⟨gy, 2, none⟩ = some (.int .i64 y.told) := fun W h => (mk_cells (mk_below H2 h l2)).2.2.1
  have E8 : ∀ W, Below gz w0 W → W.cell? ⟨gy, 3, none⟩ = some (.int .i64 (y.deep : Nat)) := fun W h => (mk_cells (mk_below H2 h l2)).2.2.2
  have KZ : Hid (∀ W' : World, Below w0.heap.size w0 W' → MkAt W' gz noMk) := fun W' h => mk_below hz h hgz
  have KD : Hid (∀ W : World, Below gz w0 W → Below gz w0 W.drew) := fun W h => h.drew
  have KA : Hid (∀ (W : World) (o : Obj), Below gz w0 W → Below gz w0 (W.alloc o)) := fun W o h => h.alloc (by have := h.size; omega) _
  have KS : Hid (∀ (W : World) (a : Addr) (u : Value), gz ≤ a.block → Below gz w0 W → Below gz w0 (W.setCell a u)) := fun W a u h h' => h'.setCell h _
  have KB : Hid (∀ W W' : World, Below gz w0 W → Below W.heap.size W W' → Below gz w0 W') := fun W W' h h' => h.trans (h'.mono (by have := h.size; omega))
  unfold mkV at W2
  clear H1 H2 hz p1 p2 p3 p4 q1 q2 q3 q4
  rcases tx with tx | tx
  · have hx1 : (x.told == 1) = false := by rw [tx]; rfl
    rw [hx1] at W1
    simp only [Bool.false_or] at W1
    clear tx
    conv => arg 2; whnf
    go_upto_region 25 with fail
    go_region_held3 (fun W => Below gz w0 W) (first | assumption | (repeat' first | exact hS0 | with_reducible assumption | with_reducible apply KD.out | with_reducible apply KA.out | (with_reducible refine KS.out _ _ _ (Nat.le_refl _) ?_) | exact KB.out _ _ hS0 (by assumption) | exact KB.out _ _ (KD.out _ hS0) (by assumption)))
      (first
        | (go_at_call 76; refine (W1 _).mono ?_; rintro e w' ⟨rfl, rfl⟩)
        | (go_at_call 73; refine (W2 _).mono ?_; rintro e w1 ⟨rfl, hb1⟩; have HZ1 : Hid _ := KZ.out w1 ⟨hb1.os, hb1.tape, hb1.output, hb1.size, hb1.block⟩; obtain ⟨z0, z1, z2, z3⟩ := mk_cells HZ1.out; obtain ⟨f0, f1, f2, f3⟩ := mk_free HZ1.out))
    all_goals
      rename_i hHeld
      first | exact ⟨_, _, _, _, _, _, _, _, _, _, _, _, _, _, _, _, _, _, _, _, _, _, _, _, _, _, _, _, _, _, _, _, _, _, _, _, _, _, _, _, _, _, _, _, _, _, _, _, _, _, _, _, _, _, _, _, _, _, _, _, _, _, _, _, _, _, _, _, _, _, _, _, _, _, _, _, _, _, _, _, _, _, _, _, _, _, _, _, _, _, _, _, _, _, _, _, _, _, _, _, _, _, _, _, _, _, _, _, _, _, _, _, _, rfl, by first | exact mk_set HZ1.out | exact mk_drew (mk_set HZ1.out), hHeld⟩ | exact ⟨⟨_, _, _, _, _, _, _, _, _, _, _, _, _, _, _, _, _, _, _, _, _, _, _, _, _, _, _, _, _, _, _, _, _, _, _, _, _, _, _, _, _, _, _, _, _, _, _, _, _, _, _, _, _, _, _, _, _, _, _, _, _, _, _, _, _, _, _, _, _, _, _, _, _, _, _, _, _, _, _, _, _, _, _, _, _, _, _, _, _, _, _, _, _, _, _, _, _, _, _, _, _, _, _, _, _, _, _, _, _, _, _, _, _, rfl⟩, by first | exact mk_set HZ1.out | exact mk_drew (mk_set HZ1.out), hHeld⟩
  · have hx1 : (x.told == 1) = true := by rw [tx]; rfl
    rw [hx1] at W1
    simp only [Bool.true_or] at W1
    clear tx
    conv => arg 2; whnf
    go_upto_region 25 with fail
    refine wp_region_held_drew (S := fun W => Below gz w0 W) (by kernel_rfl) hS0.drew (fun hHeld => ?_)
    refine wpAnyH_take (i := 0) (v := .agg #[S x.text, S x.bare, .int .i64 x.told, .int .i64 (x.deep : Nat)]) rfl (by kernel_rfl) (by kernel_rfl) (by kernel_rfl) (fun _ _ _ h => h) (Or.inl ⟨by rfl, fun w hSw => ?_⟩) hHeld ?_
    · dsimp only at hSw; have s1 := E1 w hSw; have s2 := E2 w hSw; have s3 := E3 w hSw; have s4 := E4 w hSw; clear E1 E2 E3 E4 E5 E6 E7 E8; go_simp
    simp only [List.getElem_toArray, List.getElem_cons_zero, List.getElem_cons_succ, Act.put, List.setIfInBounds_toArray, List.set_cons_zero, List.set_cons_succ]
    refine wpAnyH_take (i := 1) (v := .agg #[S y.text, S y.bare, .int .i64 y.told, .int .i64 (y.deep : Nat)]) rfl (by kernel_rfl) (by kernel_rfl) (by kernel_rfl) (fun _ _ _ h => h) (Or.inl ⟨by rfl, fun w hSw => ?_⟩) hHeld ?_
    · dsimp only at hSw; have s5 := E5 w hSw; have s6 := E6 w hSw; have s7 := E7 w hSw; have s8 := E8 w hSw; clear E1 E2 E3 E4 E5 E6 E7 E8; go_simp
    simp only [List.getElem_toArray, List.getElem_cons_zero, List.getElem_cons_succ, Act.put, List.setIfInBounds_toArray, List.set_cons_zero, List.set_cons_succ]
    refine wpAnyH_take (i := 2) (v := .pointer (some ⟨gx, 2, none⟩)) rfl (by kernel_rfl) (by kernel_rfl) (by kernel_rfl) (fun _ _ _ h => h) (Or.inl ⟨by rfl, fun w hSw => ?_⟩) hHeld ?_
    · dsimp only at hSw; clear E1 E2 E3 E4 E5 E6 E7 E8; go_simp
    simp only [List.getElem_toArray, List.getElem_cons_zero, List.getElem_cons_succ, Act.put, List.setIfInBounds_toArray, List.set_cons_zero, List.set_cons_succ]
    refine wpAnyH_take (i := 3) (v := .int .i64 x.told) rfl (by kernel_rfl) (by kernel_rfl) (by kernel_rfl) (fun _ _ _ h => h) (Or.inl ⟨by rfl, fun w hSw => ?_⟩) hHeld ?_
    · dsimp only at hSw; have s3 := E3 w hSw; clear E1 E2 E3 E4 E5 E6 E7 E8; go_simp
    simp only [List.getElem_toArray, List.getElem_cons_zero, List.getElem_cons_succ, Act.put, List.setIfInBounds_toArray, List.set_cons_zero, List.set_cons_succ]
    refine wpAnyH_take (i := 4) (v := .bool true) rfl (by kernel_rfl) (by kernel_rfl) (by kernel_rfl) (fun _ _ _ h => h) (Or.inl ⟨by rfl, fun w hSw => ?_⟩) hHeld ?_
    · dsimp only at hSw; clear E1 E2 E3 E4 E5 E6 E7 E8; go_simp
    simp only [List.getElem_toArray, List.getElem_cons_zero, List.getElem_cons_succ, Act.put, List.setIfInBounds_toArray, List.set_cons_zero, List.set_cons_succ]
    refine wpAnyH_take (i := 5) (v := .bool true) rfl (by kernel_rfl) (by kernel_rfl) (by kernel_rfl) (fun _ _ _ h => h) (Or.inl ⟨by rfl, fun w hSw => ?_⟩) hHeld ?_
    · dsimp only at hSw; clear E1 E2 E3 E4 E5 E6 E7 E8; go_simp
    simp only [List.getElem_toArray, List.getElem_cons_zero, List.getElem_cons_succ, Act.put, List.setIfInBounds_toArray, List.set_cons_zero, List.set_cons_succ]
    refine wpAnyH_take (i := 6) (v := undef) rfl (by kernel_rfl) (by kernel_rfl) (by kernel_rfl) (fun _ _ _ h => h) (Or.inr ⟨by rfl, rfl⟩) hHeld ?_
    simp only [List.getElem_toArray, List.getElem_cons_zero, List.getElem_cons_succ, Act.put, List.setIfInBounds_toArray, List.set_cons_zero, List.set_cons_succ]
    refine wpAnyH_take (i := 7) (v := undef) rfl (by kernel_rfl) (by kernel_rfl) (by kernel_rfl) (fun _ _ _ h => h) (Or.inr ⟨by rfl, rfl⟩) hHeld ?_
    simp only [List.getElem_toArray, List.getElem_cons_zero, List.getElem_cons_succ, Act.put, List.setIfInBounds_toArray, List.set_cons_zero, List.set_cons_succ]
    refine wpAnyH_take (i := 8) (v := undef) rfl (by kernel_rfl) (by kernel_rfl) (by kernel_rfl) (fun _ _ _ h => h) (Or.inr ⟨by rfl, rfl⟩) hHeld ?_
    simp only [List.getElem_toArray, List.getElem_cons_zero, List.getElem_cons_succ, Act.put, List.setIfInBounds_toArray, List.set_cons_zero, List.set_cons_succ]
    refine wpAnyH_take (i := 9) (v := .bool true) rfl (by kernel_rfl) (by kernel_rfl) (by kernel_rfl) (fun _ _ _ h => h) (Or.inl ⟨by rfl, fun w hSw => ?_⟩) hHeld ?_
    · dsimp only at hSw; clear E1 E2 E3 E4 E5 E6 E7 E8; go_simp
    simp only [List.getElem_toArray, List.getElem_cons_zero, List.getElem_cons_succ, Act.put, List.setIfInBounds_toArray, List.set_cons_zero, List.set_cons_succ]
    refine wpAnyH_ready (rs := [10]) (by kernel_rfl) (by simp) ?_
    refine AllReadyH.cons rfl (fun K hK => ?_) AllReadyH.nil
    go_simp
    refine (W1 _).mono ?_
    rintro e w2 ⟨rfl, rfl⟩
    dsimp only
    refine hK.out _ _ hHeld (fun hHeld => ?_)
    clear hK
    try simp only [List.getElem_toArray, List.getElem_cons_zero, List.getElem_cons_succ, Act.put, List.setIfInBounds_toArray, List.set_cons_zero, List.set_cons_succ]
    refine wpAnyH_ready (rs := [11]) (by kernel_rfl) (by simp) ?_
    refine AllReadyH.cons rfl (fun K hK => ?_) AllReadyH.nil
    go_simp
    refine (W2 _).mono ?_
    rintro e w1 ⟨rfl, hb1⟩
    dsimp only
    have HZ1 : Hid _ := KZ.out w1 ⟨hb1.os, hb1.tape, hb1.output, hb1.size, hb1.block⟩
    obtain ⟨z0, z1, z2, z3⟩ := mk_cells HZ1.out
    obtain ⟨f0, f1, f2, f3⟩ := mk_free HZ1.out
    refine hK.out _ _ (KB.out _ _ hHeld hb1) (fun hHeld => ?_)
    clear hK hb1
    try simp only [List.getElem_toArray, List.getElem_cons_zero, List.getElem_cons_succ, Act.put, List.setIfInBounds_toArray, List.set_cons_zero, List.set_cons_succ]
    refine wpAnyH_ready (rs := [12]) (by kernel_rfl) (by simp) ?_
    refine AllReadyH.cons rfl (fun K hK => ?_) AllReadyH.nil
    go_simp
    refine hK.out _ _ (set_below hHeld) (fun hHeld => ?_)
    clear hK
    refine wpAnyH_done (by kernel_rfl) ?_ _
    go_wp2_with fail
    first | exact ⟨_, _, _, _, _, _, _, _, _, _, _, _, _, _, _, _, _, _, _, _, _, _, _, _, _, _, _, _, _, _, _, _, _, _, _, _, _, _, _, _, _, _, _, _, _, _, _, _, _, _, _, _, _, _, _, _, _, _, _, _, _, _, _, _, _, _, _, _, _, _, _, _, _, _, _, _, _, _, _, _, _, _, _, _, _, _, _, _, _, _, _, _, _, _, _, _, _, _, _, _, _, _, _, _, _, _, _, _, _, _, _, _, _, rfl, by first | exact mk_set HZ1.out | exact mk_drew (mk_set HZ1.out), hHeld⟩ | exact ⟨⟨_, _, _, _, _, _, _, _, _, _, _, _, _, _, _, _, _, _, _, _, _, _, _, _, _, _, _, _, _, _, _, _, _, _, _, _, _, _, _, _, _, _, _, _, _, _, _, _, _, _, _, _, _, _, _, _, _, _, _, _, _, _, _, _, _, _, _, _, _, _, _, _, _, _, _, _, _, _, _, _, _, _, _, _, _, _, _, _, _, _, _, _, _, _, _, _, _, _, _, _, _, _, _, _, _, _, _, _, _, _, _, _, _, rfl⟩, by first | exact mk_set HZ1.out | exact mk_drew (mk_set HZ1.out), hHeld⟩
end Go.Proofs.YtfkdailfcmnjlaaGreatDoor

namespace Go.Proofs.YtfkdailfcmnjlaaGreatDoor
open Go Go.RowKit
set_option maxRecDepth 100000
attribute [local go_sem ↓] Go.wp_at_zero Go.wp_at_succ

set_option maxHeartbeats 8000000 in
set_option maxRecDepth 1000000 in
theorem sw_8 {ga gb gm gk gx gy gz : Nat} {w0 : World} {a b m k x y : Mk} (c0 c1 c2 c3 c4 c5 c6 c7 c8 c9 c10 c18 c19 c20 c21 c22 c23 c24 c25 c26 c27 c28 c29 c30 c31 c32 c33 c34 c35 c36 c37 c38 c39 c40 c41 c42 c43 c44 c45 c46 c47 c48 c49 c50 c51 c52 c53 c54 c55 c56 c57 c58 c59 c60 c61 c62 c63 c64 c65 c67 c68 c69 c70 c71 c72 c73 c74 c75 c76 c77 c78 c79 c80 c81 c82 c83 c84 c85 c86 c87 c88 c89 c90 c91 c92 c93 c94 c95 c96 c97 c98 c99 c100 c101 c102 c103 c104 c105 c106 c107 c108 c109 c110 c111 c112 c113 c114 c115 c116 c117 c118 c119 c120 c121 c122 c123 c124 c125 c126 c127 c128 c129 c130 c131 c132 c133 c134 c135 c136 c137 c138 c139 c140 c141 c142 c143 c144 c145 c146 c147 c148 c149 c150 c151 c152 c153 c154 c155 c156 c157 c158 c159 c160 c161 c162 c163 c164 c165 c166 c167 c168 c169 c170 c171 c172 c173 c174 c175 c176 c177 c178 c179 c180 c181 c182 c183 c184 c185 c186 c187 c188 c189 c190 c191 c192 c193 c194 c195 c196 c197 c198 c199 c200 c201 c202 c203 c204 c205 c206 c207 c208 c209 c210 c211 c212 c213 c214 c215 c216 c217 c218 c219 c220 c221 c222 c223 c224 : Value) (HI : SwI w0 ga gb gm gk gx gy gz a b m k x y) :
    Code.wp Tryz.prog ((Tryz.f38.body.bind blkIn).getD .skip) (JN (fun a' w' => ∃ (u67 u68 u69 u70 u71 u72 u73 u74 u75 u76 u77 u78 u79 u80 u81 u82 u83 u84 u85 u86 u87 u88 u89 u90 u91 u92 u93 u94 u95 u96 u97 u98 u99 u100 u101 u102 u103 u104 u105 u106 u107 u108 u109 u110 u111 u112 u113 u114 u115 u116 u117 u118 u119 u120 u121 u122 u123 u124 u125 u126 u127 u128 u129 u130 u131 u132 u133 u134 u135 u136 u137 u138 u139 u140 u141 u142 u143 u144 u145 u146 u147 u148 u149 u150 u151 u152 u153 u154 u155 u156 u157 u158 u159 u160 u161 u162 u163 u164 u165 u166 u167 u168 u169 u170 u171 u172 u173 u174 u175 u176 u177 u178 u179 : Value), a' = ⟨#[c0, c1, c2, c3, c4, c5, c6, c7, c8, c9, c10, .pointer (some ⟨ga, 0, none⟩), .pointer (some ⟨gb, 0, none⟩), .pointer (some ⟨gm, 0, none⟩), .pointer (some ⟨gk, 0, none⟩), .pointer (some ⟨gx, 0, none⟩), .pointer (some ⟨gy, 0, none⟩), .pointer (some ⟨gz, 0, none⟩), c18, c19, c20, c21, c22, c23, c24, c25, c26, c27, c28, c29, c30, c31, c32, c33, c34, c35, c36, c37, c38, c39, c40, c41, c42, c43, c44, c45, c46, c47, c48, c49, c50, c51, c52, c53, c54, c55, c56, c57, c58, c59, c60, c61, c62, c63, c64, c65, .int .i64 8, u67, u68, u69, u70, u71, u72, u73, u74, u75, u76, u77, u78, u79, u80, u81, u82, u83, u84, u85, u86, u87, u88, u89, u90, u91, u92, u93, u94, u95, u96, u97, u98, u99, u100, u101, u102, u103, u104, u105, u106, u107, u108, u109, u110, u111, u112, u113, u114, u115, u116, u117, u118, u119, u120, u121, u122, u123, u124, u125, u126, u127, u128, u129, u130, u131, u132, u133, u134, u135, u136, u137, u138, u139, u140, u141, u142, u143, u144, u145, u146, u147, u148, u149, u150, u151, u152, u153, u154, u155, u156, u157, u158, u159, u160, u161, u162, u163, u164, u165, u166, u167, u168, u169, u170, u171, u172, u173, u174, u175, u176, u177, u178, u179, c180, c181, c182, c183, c184, c185, c186, c187, c188, c189, c190, c191, c192, c193, c194, c195, c196, c197, c198, c199, c200, c201, c202, c203, c204, c205, c206, c207, c208, c209, c210, c211, c212, c213, c214, c215, c216, c217, c218, c219, c220, c221, c222, c223, c224], []⟩ ∧ MkAt w' gz (gM 8 a b m k x y) ∧ Below gz w0 w')) ⟨#[c0, c1, c2, c3, c4, c5, c6, c7, c8, c9, c10, .pointer (some ⟨ga, 0, none⟩), .pointer (some ⟨gb, 0, none⟩), .pointer (some ⟨gm, 0, none⟩), .pointer (some ⟨gk, 0, none⟩), .pointer (some ⟨gx, 0, none⟩), .pointer (some ⟨gy, 0, none⟩), .pointer (some ⟨gz, 0, none⟩), c18, c19, c20, c21, c22, c23, c24, c25, c26, c27, c28, c29, c30, c31, c32, c33, c34, c35, c36, c37, c38, c39, c40, c41, c42, c43, c44, c45, c46, c47, c48, c49, c50, c51, c52, c53, c54, c55, c56, c57, c58, c59, c60, c61, c62, c63, c64, c65, .int .i64 8, c67, c68, c69, c70, c71, c72, c73, c74, c75, c76, c77, c78, c79, c80, c81, c82, c83, c84, c85, c86, c87, c88, c89, c90, c91, c92, c93, c94, c95, c96, c97, c98, c99, c100, c101, c102, c103, c104, c105, c106, c107, c108, c109, c110, c111, c112, c113, c114, c115, c116, c117, c118, c119, c120, c121, c122, c123, c124, c125, c126, c127, c128, c129, c130, c131, c132, c133, c134, c135, c136, c137, c138, c139, c140, c141, c142, c143, c144, c145, c146, c147, c148, c149, c150, c151, c152, c153, c154, c155, c156, c157, c158, c159, c160, c161, c162, c163, c164, c165, c166, c167, c168, c169, c170, c171, c172, c173, c174, c175, c176, c177, c178, c179, c180, c181, c182, c183, c184, c185, c186, c187, c188, c189, c190, c191, c192, c193, c194, c195, c196, c197, c198, c199, c200, c201, c202, c203, c204, c205, c206, c207, c208, c209, c210, c211, c212, c213, c214, c215, c216, c217, c218, c219, c220, c221, c222, c223, c224], []⟩ w0 := by
  have H1 := HI.ox
  have hz := HI.oz
  have tx := HI.tx
  obtain ⟨p1, p2, p3, p4⟩ := HI.sx
  clear HI
  obtain ⟨t1, ht1⟩ : ∃ t1 : List UInt8, t1 = [40, 110, 111, 116, 32] ++ x.text := ⟨_, rfl⟩
  obtain ⟨b1, hb1⟩ : ∃ b1 : List UInt8, b1 = [110, 111, 116, 40] ++ x.bare := ⟨_, rfl⟩
  obtain ⟨r, hr⟩ : ∃ r : Mk, r = gM 8 a b m k x y := ⟨_, rfl⟩
  have e1 : (⟨#[40, 110, 111, 116, 32]⟩ : ByteArray) ++ ⟨x.text.toArray⟩ = ⟨t1.toArray⟩ := ByteArray.ext (by rw [ht1]; simp)
  have e2 : (⟨t1.toArray⟩ : ByteArray) ++ ⟨#[41]⟩ = ⟨r.text.toArray⟩ := ByteArray.ext (by rw [hr, ht1]; simp [gM, wsNot])
  have e3 : (⟨#[110, 111, 116, 40]⟩ : ByteArray) ++ ⟨x.bare.toArray⟩ = ⟨b1.toArray⟩ := ByteArray.ext (by rw [hb1]; simp)
  have e4 : (⟨b1.toArray⟩ : ByteArray) ++ ⟨#[41]⟩ = ⟨r.bare.toArray⟩ := ByteArray.ext (by rw [hr, hb1]; simp [gM])
  have e5 : IntKind.i64.wrap (1 - x.told) = r.told := by rw [hr, IntKind.wrap_i64]; show _ = 1 - x.told; omega
  have e6 : (x.deep : Int) + 1 = (r.deep : Int) := by rw [hr]; show _ = ((x.deep + 1 : Nat) : Int); omega
  have l1 : ¬ 9223372036854775807 < 5 + x.text.length := by omega
  have l2 : ¬ 9223372036854775807 < t1.length + 1 := by rw [ht1]; simp; omega
  have l3 : ¬ 9223372036854775807 < 4 + x.bare.length := by omega
  have l4 : ¬ 9223372036854775807 < b1.length + 1 := by rw [hb1]; simp; omega
  have HR : Hid (gM 8 a b m k x y = r) := hr.symm
  rw [HR.out]
  obtain ⟨x0, x1, x2, x3⟩ := mk_cells H1
  obtain ⟨z0, z1, z2, z3⟩ := mk_cells hz
  obtain ⟨f0, f1, f2, f3⟩ := mk_free hz
  have HZ : Hid _ := hz
  clear H1 hz ht1 hb1 hr p1 p2 p4 tx
  conv => arg 2; whnf
  go_wp2_with fail
  first | exact ⟨_, _, _, _, _, _, _, _, _, _, _, _, _, _, _, _, _, _, _, _, _, _, _, _, _, _, _, _, _, _, _, _, _, _, _, _, _, _, _, _, _, _, _, _, _, _, _, _, _, _, _, _, _, _, _, _, _, _, _, _, _, _, _, _, _, _, _, _, _, _, _, _, _, _, _, _, _, _, _, _, _, _, _, _, _, _, _, _, _, _, _, _, _, _, _, _, _, _, _, _, _, _, _, _, _, _, _, _, _, _, _, _, _, rfl, by first | exact mk_set HZ.out | exact mk_drew (mk_set HZ.out), by first | exact set_below (Below.refl _ _) | exact (set_below (Below.refl _ _)).drew⟩ | exact ⟨⟨_, _, _, _, _, _, _, _, _, _, _, _, _, _, _, _, _, _, _, _, _, _, _, _, _, _, _, _, _, _, _, _, _, _, _, _, _, _, _, _, _, _, _, _, _, _, _, _, _, _, _, _, _, _, _, _, _, _, _, _, _, _, _, _, _, _, _, _, _, _, _, _, _, _, _, _, _, _, _, _, _, _, _, _, _, _, _, _, _, _, _, _, _, _, _, _, _, _, _, _, _, _, _, _, _, _, _, _, _, _, _, _, _, rfl⟩, by first | exact mk_set HZ.out | exact mk_drew (mk_set HZ.out), by first | exact set_below (Below.refl _ _) | exact (set_below (Below.refl _ _)).drew⟩
end Go.Proofs.YtfkdailfcmnjlaaGreatDoor

namespace Go.Proofs.YtfkdailfcmnjlaaGreatDoor
open Go Go.RowKit
set_option maxRecDepth 100000
attribute [local go_sem ↓] Go.wp_at_zero Go.wp_at_succ

set_option maxHeartbeats 8000000 in
set_option maxRecDepth 1000000 in
theorem sw_9 {ga gb gm gk gx gy gz : Nat} {w0 : World} {a b m k x y : Mk} (c0 c1 c2 c3 c4 c5 c6 c7 c8 c9 c10 c18 c19 c20 c21 c22 c23 c24 c25 c26 c27 c28 c29 c30 c31 c32 c33 c34 c35 c36 c37 c38 c39 c40 c41 c42 c43 c44 c45 c46 c47 c48 c49 c50 c51 c52 c53 c54 c55 c56 c57 c58 c59 c60 c61 c62 c63 c64 c65 c67 c68 c69 c70 c71 c72 c73 c74 c75 c76 c77 c78 c79 c80 c81 c82 c83 c84 c85 c86 c87 c88 c89 c90 c91 c92 c93 c94 c95 c96 c97 c98 c99 c100 c101 c102 c103 c104 c105 c106 c107 c108 c109 c110 c111 c112 c113 c114 c115 c116 c117 c118 c119 c120 c121 c122 c123 c124 c125 c126 c127 c128 c129 c130 c131 c132 c133 c134 c135 c136 c137 c138 c139 c140 c141 c142 c143 c144 c145 c146 c147 c148 c149 c150 c151 c152 c153 c154 c155 c156 c157 c158 c159 c160 c161 c162 c163 c164 c165 c166 c167 c168 c169 c170 c171 c172 c173 c174 c175 c176 c177 c178 c179 c180 c181 c182 c183 c184 c185 c186 c187 c188 c189 c190 c191 c192 c193 c194 c195 c196 c197 c198 c199 c200 c201 c202 c203 c204 c205 c206 c207 c208 c209 c210 c211 c212 c213 c214 c215 c216 c217 c218 c219 c220 c221 c222 c223 c224 : Value) (HI : SwI w0 ga gb gm gk gx gy gz a b m k x y) :
    Code.wp Tryz.prog ((Tryz.f38.body.bind blkIn).getD .skip) (JN (fun a' w' => ∃ (u67 u68 u69 u70 u71 u72 u73 u74 u75 u76 u77 u78 u79 u80 u81 u82 u83 u84 u85 u86 u87 u88 u89 u90 u91 u92 u93 u94 u95 u96 u97 u98 u99 u100 u101 u102 u103 u104 u105 u106 u107 u108 u109 u110 u111 u112 u113 u114 u115 u116 u117 u118 u119 u120 u121 u122 u123 u124 u125 u126 u127 u128 u129 u130 u131 u132 u133 u134 u135 u136 u137 u138 u139 u140 u141 u142 u143 u144 u145 u146 u147 u148 u149 u150 u151 u152 u153 u154 u155 u156 u157 u158 u159 u160 u161 u162 u163 u164 u165 u166 u167 u168 u169 u170 u171 u172 u173 u174 u175 u176 u177 u178 u179 : Value), a' = ⟨#[c0, c1, c2, c3, c4, c5, c6, c7, c8, c9, c10, .pointer (some ⟨ga, 0, none⟩), .pointer (some ⟨gb, 0, none⟩), .pointer (some ⟨gm, 0, none⟩), .pointer (some ⟨gk, 0, none⟩), .pointer (some ⟨gx, 0, none⟩), .pointer (some ⟨gy, 0, none⟩), .pointer (some ⟨gz, 0, none⟩), c18, c19, c20, c21, c22, c23, c24, c25, c26, c27, c28, c29, c30, c31, c32, c33, c34, c35, c36, c37, c38, c39, c40, c41, c42, c43, c44, c45, c46, c47, c48, c49, c50, c51, c52, c53, c54, c55, c56, c57, c58, c59, c60, c61, c62, c63, c64, c65, .int .i64 9, u67, u68, u69, u70, u71, u72, u73, u74, u75, u76, u77, u78, u79, u80, u81, u82, u83, u84, u85, u86, u87, u88, u89, u90, u91, u92, u93, u94, u95, u96, u97, u98, u99, u100, u101, u102, u103, u104, u105, u106, u107, u108, u109, u110, u111, u112, u113, u114, u115, u116, u117, u118, u119, u120, u121, u122, u123, u124, u125, u126, u127, u128, u129, u130, u131, u132, u133, u134, u135, u136, u137, u138, u139, u140, u141, u142, u143, u144, u145, u146, u147, u148, u149, u150, u151, u152, u153, u154, u155, u156, u157, u158, u159, u160, u161, u162, u163, u164, u165, u166, u167, u168, u169, u170, u171, u172, u173, u174, u175, u176, u177, u178, u179, c180, c181, c182, c183, c184, c185, c186, c187, c188, c189, c190, c191, c192, c193, c194, c195, c196, c197, c198, c199, c200, c201, c202, c203, c204, c205, c206, c207, c208, c209, c210, c211, c212, c213, c214, c215, c216, c217, c218, c219, c220, c221, c222, c223, c224], []⟩ ∧ MkAt w' gz (gM 9 a b m k x y) ∧ Below gz w0 w')) ⟨#[c0, c1, c2, c3, c4, c5, c6, c7, c8, c9, c10, .pointer (some ⟨ga, 0, none⟩), .pointer (some ⟨gb, 0, none⟩), .pointer (some ⟨gm, 0, none⟩), .pointer (some ⟨gk, 0, none⟩), .pointer (some ⟨gx, 0, none⟩), .pointer (some ⟨gy, 0, none⟩), .pointer (some ⟨gz, 0, none⟩), c18, c19, c20, c21, c22, c23, c24, c25, c26, c27, c28, c29, c30, c31, c32, c33, c34, c35, c36, c37, c38, c39, c40, c41, c42, c43, c44, c45, c46, c47, c48, c49, c50, c51, c52, c53, c54, c55, c56, c57, c58, c59, c60, c61, c62, c63, c64, c65, .int .i64 9, c67, c68, c69, c70, c71, c72, c73, c74, c75, c76, c77, c78, c79, c80, c81, c82, c83, c84, c85, c86, c87, c88, c89, c90, c91, c92, c93, c94, c95, c96, c97, c98, c99, c100, c101, c102, c103, c104, c105, c106, c107, c108, c109, c110, c111, c112, c113, c114, c115, c116, c117, c118, c119, c120, c121, c122, c123, c124, c125, c126, c127, c128, c129, c130, c131, c132, c133, c134, c135, c136, c137, c138, c139, c140, c141, c142, c143, c144, c145, c146, c147, c148, c149, c150, c151, c152, c153, c154, c155, c156, c157, c158, c159, c160, c161, c162, c163, c164, c165, c166, c167, c168, c169, c170, c171, c172, c173, c174, c175, c176, c177, c178, c179, c180, c181, c182, c183, c184, c185, c186, c187, c188, c189, c190, c191, c192, c193, c194, c195, c196, c197, c198, c199, c200, c201, c202, c203, c204, c205, c206, c207, c208, c209, c210, c211, c212, c213, c214, c215, c216, c217, c218, c219, c220, c221, c222, c223, c224], []⟩ w0 := by
  have hz := HI.oz
  obtain ⟨p1, p2, p3, p4⟩ := HI.sx
  obtain ⟨q1, q2, q3, q4⟩ := HI.sa
  obtain ⟨r1, r2, r3, r4⟩ := HI.sb
  have W1 := fun W : World => choice_any x a b ⟨p1, p2, p3⟩ ⟨q1, q2, q3⟩ ⟨r1, r2, r3⟩ W
  have HR : Hid (gM 9 a b m k x y = ifM x a b) := rfl
  rw [HR.out]
  clear HR
  generalize ifM x a b = r at *
  obtain ⟨x0, x1, x2, x3⟩ := mk_cells HI.ox
  obtain ⟨y0, y1, y2, y3⟩ := mk_cells HI.oa
  obtain ⟨v0, v1, v2, v3⟩ := mk_cells HI.ob
  have hgz : gz < w0.heap.size := lt_of_get hz
  have KZ : Hid (∀ W' : World, Below w0.heap.size w0 W' → MkAt W' gz noMk ∧ Below gz w0 W') := fun W' h => ⟨mk_below hz h hgz, h.mono (by omega)⟩
  unfold mkV at W1
  clear HI hz p1 p2 p3 p4 q1 q2 q3 q4 r1 r2 r3 r4
  conv => arg 2; whnf
  go_wp2_with (go_at_call 77; go_loud (refine (W1 _).mono ?_; rintro e w1 ⟨rfl, hb1⟩; have HZ1 : Hid _ := KZ.out w1 hb1; obtain ⟨z0, z1, z2, z3⟩ := mk_cells HZ1.out.1; obtain ⟨f0, f1, f2, f3⟩ := mk_free HZ1.out.1; clear hb1))
  first | exact ⟨_, _, _, _, _, _, _, _, _, _, _, _, _, _, _, _, _, _, _, _, _, _, _, _, _, _, _, _, _, _, _, _, _, _, _, _, _, _, _, _, _, _, _, _, _, _, _, _, _, _, _, _, _, _, _, _, _, _, _, _, _, _, _, _, _, _, _, _, _, _, _, _, _, _, _, _, _, _, _, _, _, _, _, _, _, _, _, _, _, _, _, _, _, _, _, _, _, _, _, _, _, _, _, _, _, _, _, _, _, _, _, _, _, rfl, by first | exact mk_set HZ1.out.1 | exact mk_drew (mk_set HZ1.out.1), by first | exact set_below HZ1.out.2 | exact (set_below HZ1.out.2).drew⟩ | exact ⟨⟨_, _, _, _, _, _, _, _, _, _, _, _, _, _, _, _, _, _, _, _, _, _, _, _, _, _, _, _, _, _, _, _, _, _, _, _, _, _, _, _, _, _, _, _, _, _, _, _, _, _, _, _, _, _, _, _, _, _, _, _, _, _, _, _, _, _, _, _, _, _, _, _, _, _, _, _, _, _, _, _, _, _, _, _, _, _, _, _, _, _, _, _, _, _, _, _, _, _, _, _, _, _, _, _, _, _, _, _, _, _, _, _, _, rfl⟩, by first | exact mk_set HZ1.out.1 | exact mk_drew (mk_set HZ1.out.1), by first | exact set_below HZ1.out.2 | exact (set_below HZ1.out.2).drew⟩
end Go.Proofs.YtfkdailfcmnjlaaGreatDoor
