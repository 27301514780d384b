/-
  The second loop of 'written': what is written of a rule (the first). The second loop of 'written': what is written of a rule (another). The second loop of 'written': what it says. The second loop of 'written': a round. The second loop of 'written', whole.
-/
import Derived.Test.YtfkdailfcmnjlaaGreatDoorTells01
import Derived.Test.YtfkdailfcmnjlaaGreatDoorTells02
import Derived.Test.YtfkdailfcmnjlaaGreatDoorTells03
import Derived.Test.YtfkdailfcmnjlaaGreatDoorTells04
import Derived.Test.YtfkdailfcmnjlaaGreatDoorTells05
import Derived.Test.YtfkdailfcmnjlaaGreatDoorTells06
import Derived.Test.YtfkdailfcmnjlaaGreatDoorTells07
import Derived.Test.YtfkdailfcmnjlaaGreatDoorTells08
import Derived.Test.YtfkdailfcmnjlaaGreatDoorTells09
import Derived.Test.YtfkdailfcmnjlaaGreatDoorTells10
import Derived.Test.YtfkdailfcmnjlaaGreatDoorTells11
import Derived.Test.YtfkdailfcmnjlaaGreatDoorTells12
import Derived.Test.YtfkdailfcmnjlaaGreatDoorTells13
import Derived.Test.YtfkdailfcmnjlaaGreatDoorTells14
import Derived.Test.YtfkdailfcmnjlaaGreatDoorTells15
import Derived.Test.YtfkdailfcmnjlaaGreatDoorTells16
import Derived.Test.YtfkdailfcmnjlaaGreatDoorTells17
import Derived.Test.YtfkdailfcmnjlaaGreatDoorTells18
import Derived.Test.YtfkdailfcmnjlaaGreatDoorTells19
import Derived.Test.YtfkdailfcmnjlaaGreatDoorTells20
import Derived.Test.YtfkdailfcmnjlaaGreatDoorTells21
import Derived.Test.YtfkdailfcmnjlaaGreatDoorTells22
import Derived.Test.YtfkdailfcmnjlaaGreatDoorTells23
import Derived.Test.YtfkdailfcmnjlaaGreatDoorTells24
import Derived.Test.YtfkdailfcmnjlaaGreatDoorTells25
import Derived.Test.YtfkdailfcmnjlaaGreatDoorTells26
import Derived.Test.YtfkdailfcmnjlaaGreatDoorTells27
import Derived.Test.YtfkdailfcmnjlaaGreatDoorTells28
import Derived.Test.YtfkdailfcmnjlaaGreatDoorTells29
import Derived.Test.YtfkdailfcmnjlaaGreatDoorTells30
import Derived.Test.YtfkdailfcmnjlaaGreatDoorTells34
import Derived.Test.YtfkdailfcmnjlaaGreatDoorLays
import Derived.Test.YtfkdailfcmnjlaaGreatDoorLays2
import Derived.WalkKit
import Derived.Deep.QuietTactic
import Derived.BigQuiet
import Derived.WalkSpells
import GoSem.Op.String
import Derived.Deep.AppendLies
import Derived.Deep.RegionHeld3
import Derived.Deep.DrawnRows
import Derived.Deep.RegionHeldLaw
import Derived.Deep.RegionLaw
import Derived.Lib.ParseIntBCases
import Derived.Deep.OwnRows
import Derived.Lib.LaidTab
import Derived.Lib.AppendIntMem
import Derived.Shelf.Strings.Builder1
import Derived.Laws.CopyOwn
import Derived.Deep.DeepCutAuto
import Derived.WalkSmall
import Derived.Lib.AppendZerosOnto
import Derived.Shelf.Abstract
import Derived.Deep.CutBlock
set_option linter.unusedVariables false
set_option linter.unusedSimpArgs false
namespace Go.Proofs.YtfkdailfcmnjlaaGreatDoor
open Go Go.RowKit
set_option maxRecDepth 100000
attribute [local go_sem ↓] Go.wp_at_zero Go.wp_at_succ

set_option maxHeartbeats 8000000 in
set_option maxRecDepth 1000000 in
theorem wt_4a {pb xb n : Nat} {m : Mk} {hd tq bq tr br : List UInt8} {al : Bool} {r : Nat} {w0 : World} (c0 c1 c2 c3 c4 c5 c6 c7 c10 c13 c14 c15 c16 c17 c18 c19 c20 c21 c22 c23 c24 c25 c26 c27 c28 c29 c30 c31 c32 c33 c34 c35 c36 c37 c38 c39 c40 c41 c42 c43 c44 c45 c46 c47 c48 c49 c50 c51 c52 c53 c54 c55 c56 c57 c58 c59 c60 c61 c62 c63 c64 c65 c66 c67 c68 c69 c70 c71 c72 c73 c74 c75 c76 c77 c78 c79 c80 c81 c82 c83 c84 c85 c86 c87 c88 c89 c90 c91 c92 c93 c94 c95 c96 c97 c98 c99 c100 c101 c102 c103 c104 c105 c106 c107 c108 c109 c110 c111 c112 c113 c114 c115 c116 c117 c118 c119 c120 c121 c122 c123 c124 c125 c126 c127 c128 c129 c130 c131 c132 c133 c134 c135 c136 c137 c138 c139 : Value) (hx : MkAt w0 xb m) (hp : WrAt w0 pb tq bq al r) (hn : n = 1) (hne : xb ≠ pb) (hm : m.text.length ≤ 1000 ∧ m.bare.length ≤ 1000 ∧ hd.length ≤ 100 ∧ tq.length ≤ 10000 ∧ bq.length ≤ 10000)
    (ht : tr = tq ++ [108, 101, 116, 32, 102, 105, 114, 115, 116, 32, 61, 32] ++ m.text ++ [59, 10] ++ hd ++ [102, 105, 114, 115, 116, 59, 10]) (hb : br = bq ++ [108, 101, 116, 32, 102, 105, 114, 115, 116, 61] ++ m.bare ++ [59] ++ hd ++ [40, 102, 105, 114, 115, 116, 41, 59]) :
    Code.wp Tryz.prog (headOf (behindN 4 ((Tryz.f16.body.bind (blkNo 3)).getD .skip))) (JN (fun a' w' => ∃ (u82 u83 u84 u85 u86 u87 u88 u89 u90 u91 u92 u93 u94 u95 u96 u97 u98 u99 u100 u101 u102 u103 u104 u105 u106 u107 u108 u109 u110 u111 u112 u113 u114 u115 u116 u117 u118 u119 u120 u121 u122 u123 u124 : Value), a' = ⟨#[c0, c1, c2, c3, c4, c5, c6, c7, .pointer (some ⟨pb, 0, none⟩), .int .i64 (n : Nat), c10, .pointer (some ⟨xb, 0, none⟩), S hd, c13, c14, c15, c16, c17, c18, c19, c20, c21, c22, c23, c24, c25, c26, c27, c28, c29, c30, c31, c32, c33, c34, c35, c36, c37, c38, c39, c40, c41, c42, c43, c44, c45, c46, c47, c48, c49, c50, c51, c52, c53, c54, c55, c56, c57, c58, c59, c60, c61, c62, c63, c64, c65, c66, c67, c68, c69, c70, c71, c72, c73, c74, c75, c76, c77, c78, c79, c80, c81, u82, u83, u84, u85, u86, u87, u88, u89, u90, u91, u92, u93, u94, u95, u96, u97, u98, u99, u100, u101, u102, u103, u104, u105, u106, u107, u108, u109, u110, u111, u112, u113, u114, u115, u116, u117, u118, u119, u120, u121, u122, u123, u124, c125, c126, c127, c128, c129, c130, c131, c132, c133, c134, c135, c136, c137, c138, c139], []⟩ ∧ WrAt w' pb tr br al r ∧ MkAt w' xb m ∧ Below pb w0 w')) ⟨#[c0, c1, c2, c3, c4, c5, c6, c7, .pointer (some ⟨pb, 0, none⟩), .int .i64 (n : Nat), c10, .pointer (some ⟨xb, 0, none⟩), S hd, c13, c14, c15, c16, c17, c18, c19, c20, c21, c22, c23, c24, c25, c26, c27, c28, c29, c30, c31, c32, c33, c34, c35, c36, c37, c38, c39, c40, c41, c42, c43, c44, c45, c46, c47, c48, c49, c50, c51, c52, c53, c54, c55, c56, c57, c58, c59, c60, c61, c62, c63, c64, c65, c66, c67, c68, c69, c70, c71, c72, c73, c74, c75, c76, c77, c78, c79, c80, c81, c82, c83, c84, c85, c86, c87, c88, c89, c90, c91, c92, c93, c94, c95, c96, c97, c98, c99, c100, c101, c102, c103, c104, c105, c106, c107, c108, c109, c110, c111, c112, c113, c114, c115, c116, c117, c118, c119, c120, c121, c122, c123, c124, c125, c126, c127, c128, c129, c130, c131, c132, c133, c134, c135, c136, c137, c138, c139], []⟩ w0 := by
  obtain ⟨x0, x1, _, _⟩ := mk_cells hx
  have HX : Hid _ := hx
  have HP : Hid _ := hp
  have y0 : w0.cell? ⟨pb, 0, none⟩ = some (S tq) := cell_of_row w0 _ 0 _ _ _ hp
  have y1 : w0.cell? ⟨pb, 1, none⟩ = some (S bq) := cell_of_row w0 _ 1 _ _ _ hp
  have f0 : w0.frozen? ⟨pb, 0, none⟩ = false := by unfold WrAt at hp; simp [World.frozen?, hp]
  have f1 : w0.frozen? ⟨pb, 1, none⟩ = false := by unfold WrAt at hp; simp [World.frozen?, hp]
  have hne2 : pb ≠ xb := Ne.symm hne
  obtain ⟨m1, m2, m3, m4, m5⟩ := hm
  obtain ⟨t1, ht1⟩ : ∃ z : List UInt8, z = tq ++ [108, 101, 116, 32, 102, 105, 114, 115, 116, 32, 61, 32] := ⟨_, rfl⟩
  have et1 : (⟨tq.toArray⟩ : ByteArray) ++ ⟨#[108, 101, 116, 32, 102, 105, 114, 115, 116, 32, 61, 32]⟩ = ⟨t1.toArray⟩ := ByteArray.ext (by rw [ht1]; simp)
  have nt1 : t1.length = tq.length + 12 := by rw [ht1]; simp
  have lt1 : ¬ 9223372036854775807 < tq.length + 12 := by omega
  obtain ⟨t2, ht2⟩ : ∃ z : List UInt8, z = t1 ++ m.text := ⟨_, rfl⟩
  have et2 : (⟨t1.toArray⟩ : ByteArray) ++ ⟨m.text.toArray⟩ = ⟨t2.toArray⟩ := ByteArray.ext (by rw [ht2]; simp)
  have nt2 : t2.length = t1.length + m.text.length := by rw [ht2]; simp
  have lt2 : ¬ 9223372036854775807 < t1.length + m.text.length := by omega
  obtain ⟨t3, ht3⟩ : ∃ z : List UInt8, z = t2 ++ [59, 10] := ⟨_, rfl⟩
  have et3 : (⟨t2.toArray⟩ : ByteArray) ++ ⟨#[59, 10]⟩ = ⟨t3.toArray⟩ := ByteArray.ext (by rw [ht3]; simp)
  have nt3 : t3.length = t2.length + 2 := by rw [ht3]; simp
  have lt3 : ¬ 9223372036854775807 < t2.length + 2 := by omega
  obtain ⟨t4, ht4⟩ : ∃ z : List UInt8, z = t3 ++ hd := ⟨_, rfl⟩
  have et4 : (⟨t3.toArray⟩ : ByteArray) ++ ⟨hd.toArray⟩ = ⟨t4.toArray⟩ := ByteArray.ext (by rw [ht4]; simp)
  have nt4 : t4.length = t3.length + hd.length := by rw [ht4]; simp
  have lt4 : ¬ 9223372036854775807 < t3.length + hd.length := by omega
  obtain ⟨t5, ht5⟩ : ∃ z : List UInt8, z = t4 ++ [102, 105, 114, 115, 116, 59, 10] := ⟨_, rfl⟩
  have et5 : (⟨t4.toArray⟩ : ByteArray) ++ ⟨#[102, 105, 114, 115, 116, 59, 10]⟩ = ⟨t5.toArray⟩ := ByteArray.ext (by rw [ht5]; simp)
  have nt5 : t5.length = t4.length + 7 := by rw [ht5]; simp
  have lt5 : ¬ 9223372036854775807 < t4.length + 7 := by omega
  obtain ⟨b1, hb1⟩ : ∃ z : List UInt8, z = bq ++ [108, 101, 116, 32, 102, 105, 114, 115, 116, 61] := ⟨_, rfl⟩
  have eb1 : (⟨bq.toArray⟩ : ByteArray) ++ ⟨#[108, 101, 116, 32, 102, 105, 114, 115, 116, 61]⟩ = ⟨b1.toArray⟩ := ByteArray.ext (by rw [hb1]; simp)
  have nb1 : b1.length = bq.length + 10 := by rw [hb1]; simp
  have lb1 : ¬ 9223372036854775807 < bq.length + 10 := by omega
  obtain ⟨b2, hb2⟩ : ∃ z : List UInt8, z = b1 ++ m.bare := ⟨_, rfl⟩
  have eb2 : (⟨b1.toArray⟩ : ByteArray) ++ ⟨m.bare.toArray⟩ = ⟨b2.toArray⟩ := ByteArray.ext (by rw [hb2]; simp)
  have nb2 : b2.length = b1.length + m.bare.length := by rw [hb2]; simp
  have lb2 : ¬ 9223372036854775807 < b1.length + m.bare.length := by omega
  obtain ⟨b3, hb3⟩ : ∃ z : List UInt8, z = b2 ++ [59] := ⟨_, rfl⟩
  have eb3 : (⟨b2.toArray⟩ : ByteArray) ++ ⟨#[59]⟩ = ⟨b3.toArray⟩ := ByteArray.ext (by rw [hb3]; simp)
  have nb3 : b3.length = b2.length + 1 := by rw [hb3]; simp
  have lb3 : ¬ 9223372036854775807 < b2.length + 1 := by omega
  obtain ⟨b4, hb4⟩ : ∃ z : List UInt8, z = b3 ++ hd := ⟨_, rfl⟩
  have eb4 : (⟨b3.toArray⟩ : ByteArray) ++ ⟨hd.toArray⟩ = ⟨b4.toArray⟩ := ByteArray.ext (by rw [hb4]; simp)
  have nb4 : b4.length = b3.length + hd.length := by rw [hb4]; simp
  have lb4 : ¬ 9223372036854775807 < b3.length + hd.length := by omega
  obtain ⟨b5, hb5⟩ : ∃ z : List UInt8, z = b4 ++ [40, 102, 105, 114, 115, 116, 41, 59] := ⟨_, rfl⟩
  have eb5 : (⟨b4.toArray⟩ : ByteArray) ++ ⟨#[40, 102, 105, 114, 115, 116, 41, 59]⟩ = ⟨b5.toArray⟩ := ByteArray.ext (by rw [hb5]; simp)
  have nb5 : b5.length = b4.length + 8 := by rw [hb5]; simp
  have lb5 : ¬ 9223372036854775807 < b4.length + 8 := by omega
  have HT : Hid (tr = t5) := by show _ = _; rw [ht, ht5, ht4, ht3, ht2, ht1]
  have HB : Hid (br = b5) := by show _ = _; rw [hb, hb5, hb4, hb3, hb2, hb1]
  rw [HT.out, HB.out]
  subst hn
  clear hx hp ht hb HT HB ht1 nt1 ht2 nt2 ht3 nt3 ht4 nt4 ht5 nt5 hb1 nb1 hb2 nb2 hb3 nb3 hb4 nb4 hb5 nb5
  conv => arg 2; whnf
  go_wp2_with fail
  first | refine ⟨_, _, _, _, _, _, _, _, _, _, _, _, _, _, _, _, _, _, _, _, _, _, _, _, _, _, _, _, _, _, _, _, _, _, _, _, _, _, _, _, _, _, _, rfl, ?_, ?_, ?_⟩ | refine ⟨⟨_, _, _, _, _, _, _, _, _, _, _, _, _, _, _, _, _, _, _, _, _, _, _, _, _, _, _, _, _, _, _, _, _, _, _, _, _, _, _, _, _, _, _, rfl⟩, ?_, ?_, ?_⟩
  · have h1 := heap_setCell_same w0 pb 0 _ _ (S t5) HP.out
    exact heap_setCell_same _ pb 1 _ _ (S b5) h1
  · unfold MkAt
    rw [Below.heap_setCell _ _ _ _ hne, Below.heap_setCell _ _ _ _ hne]; exact HX.out
  · exact below_set (below_set (Below.refl _ _))
end Go.Proofs.YtfkdailfcmnjlaaGreatDoor

namespace Go.Proofs.YtfkdailfcmnjlaaGreatDoor
open Go Go.RowKit
set_option maxRecDepth 100000
attribute [local go_sem ↓] Go.wp_at_zero Go.wp_at_succ

set_option maxHeartbeats 8000000 in
set_option maxRecDepth 1000000 in
theorem wt_4b {pb xb n : Nat} {m : Mk} {hd tq bq tr br : List UInt8} {al : Bool} {r : Nat} {w0 : World} (c0 c1 c2 c3 c4 c5 c6 c7 c10 c13 c14 c15 c16 c17 c18 c19 c20 c21 c22 c23 c24 c25 c26 c27 c28 c29 c30 c31 c32 c33 c34 c35 c36 c37 c38 c39 c40 c41 c42 c43 c44 c45 c46 c47 c48 c49 c50 c51 c52 c53 c54 c55 c56 c57 c58 c59 c60 c61 c62 c63 c64 c65 c66 c67 c68 c69 c70 c71 c72 c73 c74 c75 c76 c77 c78 c79 c80 c81 c82 c83 c84 c85 c86 c87 c88 c89 c90 c91 c92 c93 c94 c95 c96 c97 c98 c99 c100 c101 c102 c103 c104 c105 c106 c107 c108 c109 c110 c111 c112 c113 c114 c115 c116 c117 c118 c119 c120 c121 c122 c123 c124 c125 c126 c127 c128 c129 c130 c131 c132 c133 c134 c135 c136 c137 c138 c139 : Value) (hx : MkAt w0 xb m) (hp : WrAt w0 pb tq bq al r) (hn : 1 < n) (hne : xb ≠ pb) (hm : m.text.length ≤ 1000 ∧ m.bare.length ≤ 1000 ∧ hd.length ≤ 100 ∧ tq.length ≤ 10000 ∧ bq.length ≤ 10000)
    (ht : tr = tq ++ hd ++ m.text ++ [59, 10]) (hb : br = bq ++ hd ++ [10] ++ m.bare ++ [32, 59]) :
    Code.wp Tryz.prog (headOf (behindN 4 ((Tryz.f16.body.bind (blkNo 3)).getD .skip))) (JN (fun a' w' => ∃ (u82 u83 u84 u85 u86 u87 u88 u89 u90 u91 u92 u93 u94 u95 u96 u97 u98 u99 u100 u101 u102 u103 u104 u105 u106 u107 u108 u109 u110 u111 u112 u113 u114 u115 u116 u117 u118 u119 u120 u121 u122 u123 u124 : Value), a' = ⟨#[c0, c1, c2, c3, c4, c5, c6, c7, .pointer (some ⟨pb, 0, none⟩), .int .i64 (n : Nat), c10, .pointer (some ⟨xb, 0, none⟩), S hd, c13, c14, c15, c16, c17, c18, c19, c20, c21, c22, c23, c24, c25, c26, c27, c28, c29, c30, c31, c32, c33, c34, c35, c36, c37, c38, c39, c40, c41, c42, c43, c44, c45, c46, c47, c48, c49, c50, c51, c52, c53, c54, c55, c56, c57, c58, c59, c60, c61, c62, c63, c64, c65, c66, c67, c68, c69, c70, c71, c72, c73, c74, c75, c76, c77, c78, c79, c80, c81, u82, u83, u84, u85, u86, u87, u88, u89, u90, u91, u92, u93, u94, u95, u96, u97, u98, u99, u100, u101, u102, u103, u104, u105, u106, u107, u108, u109, u110, u111, u112, u113, u114, u115, u116, u117, u118, u119, u120, u121, u122, u123, u124, c125, c126, c127, c128, c129, c130, c131, c132, c133, c134, c135, c136, c137, c138, c139], []⟩ ∧ WrAt w' pb tr br al r ∧ MkAt w' xb m ∧ Below pb w0 w')) ⟨#[c0, c1, c2, c3, c4, c5, c6, c7, .pointer (some ⟨pb, 0, none⟩), .int .i64 (n : Nat), c10, .pointer (some ⟨xb, 0, none⟩), S hd, c13, c14, c15, c16, c17, c18, c19, c20, c21, c22, c23, c24, c25, c26, c27, c28, c29, c30, c31, c32, c33, c34, c35, c36, c37, c38, c39, c40, c41, c42, c43, c44, c45, c46, c47, c48, c49, c50, c51, c52, c53, c54, c55, c56, c57, c58, c59, c60, c61, c62, c63, c64, c65, c66, c67, c68, c69, c70, c71, c72, c73, c74, c75, c76, c77, c78, c79, c80, c81, c82, c83, c84, c85, c86, c87, c88, c89, c90, c91, c92, c93, c94, c95, c96, c97, c98, c99, c100, c101, c102, c103, c104, c105, c106, c107, c108, c109, c110, c111, c112, c113, c114, c115, c116, c117, c118, c119, c120, c121, c122, c123, c124, c125, c126, c127, c128, c129, c130, c131, c132, c133, c134, c135, c136, c137, c138, c139], []⟩ w0 := by
  obtain ⟨x0, x1, _, _⟩ := mk_cells hx
  have HX : Hid _ := hx
  have HP : Hid _ := hp
  have y0 : w0.cell? ⟨pb, 0, none⟩ = some (S tq) := cell_of_row w0 _ 0 _ _ _ hp
  have y1 : w0.cell? ⟨pb, 1, none⟩ = some (S bq) := cell_of_row w0 _ 1 _ _ _ hp
  have f0 : w0.frozen? ⟨pb, 0, none⟩ = false := by unfold WrAt at hp; simp [World.frozen?, hp]
  have f1 : w0.frozen? ⟨pb, 1, none⟩ = false := by unfold WrAt at hp; simp [World.frozen?, hp]
  have hne2 : pb ≠ xb := Ne.symm hne
  obtain ⟨m1, m2, m3, m4, m5⟩ := hm
  obtain ⟨t1, ht1⟩ : ∃ z : List UInt8, z = tq ++ hd := ⟨_, rfl⟩
  have et1 : (⟨tq.toArray⟩ : ByteArray) ++ ⟨hd.toArray⟩ = ⟨t1.toArray⟩ := ByteArray.ext (by rw [ht1]; simp)
  have nt1 : t1.length = tq.length + hd.length := by rw [ht1]; simp
  have lt1 : ¬ 9223372036854775807 < tq.length + hd.length := by omega
  obtain ⟨t2, ht2⟩ : ∃ z : List UInt8, z = t1 ++ m.text := ⟨_, rfl⟩
  have et2 : (⟨t1.toArray⟩ : ByteArray) ++ ⟨m.text.toArray⟩ = ⟨t2.toArray⟩ := ByteArray.ext (by rw [ht2]; simp)
  have nt2 : t2.length = t1.length + m.text.length := by rw [ht2]; simp
  have lt2 : ¬ 9223372036854775807 < t1.length + m.text.length := by omega
  obtain ⟨t3, ht3⟩ : ∃ z : List UInt8, z = t2 ++ [59, 10] := ⟨_, rfl⟩
  have et3 : (⟨t2.toArray⟩ : ByteArray) ++ ⟨#[59, 10]⟩ = ⟨t3.toArray⟩ := ByteArray.ext (by rw [ht3]; simp)
  have nt3 : t3.length = t2.length + 2 := by rw [ht3]; simp
  have lt3 : ¬ 9223372036854775807 < t2.length + 2 := by omega
  obtain ⟨b1, hb1⟩ : ∃ z : List UInt8, z = bq ++ hd := ⟨_, rfl⟩
  have eb1 : (⟨bq.toArray⟩ : ByteArray) ++ ⟨hd.toArray⟩ = ⟨b1.toArray⟩ := ByteArray.ext (by rw [hb1]; simp)
  have nb1 : b1.length = bq.length + hd.length := by rw [hb1]; simp
  have lb1 : ¬ 9223372036854775807 < bq.length + hd.length := by omega
  obtain ⟨b2, hb2⟩ : ∃ z : List UInt8, z = b1 ++ [10] := ⟨_, rfl⟩
  have eb2 : (⟨b1.toArray⟩ : ByteArray) ++ ⟨#[10]⟩ = ⟨b2.toArray⟩ := ByteArray.ext (by rw [hb2]; simp)
  have nb2 : b2.length = b1.length + 1 := by rw [hb2]; simp
  have lb2 : ¬ 9223372036854775807 < b1.length + 1 := by omega
  obtain ⟨b3, hb3⟩ : ∃ z : List UInt8, z = b2 ++ m.bare := ⟨_, rfl⟩
  have eb3 : (⟨b2.toArray⟩ : ByteArray) ++ ⟨m.bare.toArray⟩ = ⟨b3.toArray⟩ := ByteArray.ext (by rw [hb3]; simp)
  have nb3 : b3.length = b2.length + m.bare.length := by rw [hb3]; simp
  have lb3 : ¬ 9223372036854775807 < b2.length + m.bare.length := by omega
  obtain ⟨b4, hb4⟩ : ∃ z : List UInt8, z = b3 ++ [32, 59] := ⟨_, rfl⟩
  have eb4 : (⟨b3.toArray⟩ : ByteArray) ++ ⟨#[32, 59]⟩ = ⟨b4.toArray⟩ := ByteArray.ext (by rw [hb4]; simp)
  have nb4 : b4.length = b3.length + 2 := by rw [hb4]; simp
  have lb4 : ¬ 9223372036854775807 < b3.length + 2 := by omega
  have HT : Hid (tr = t3) := by show _ = _; rw [ht, ht3, ht2, ht1]
  have HB : Hid (br = b4) := by show _ = _; rw [hb, hb4, hb3, hb2, hb1]
  rw [HT.out, HB.out]
  have k1 : ((n : Int) == 1) = false := by simp; omega
  clear hx hp ht hb HT HB ht1 nt1 ht2 nt2 ht3 nt3 hb1 nb1 hb2 nb2 hb3 nb3 hb4 nb4
  conv => arg 2; whnf
  go_wp2_with fail
  first | refine ⟨_, _, _, _, _, _, _, _, _, _, _, _, _, _, _, _, _, _, _, _, _, _, _, _, _, _, _, _, _, _, _, _, _, _, _, _, _, _, _, _, _, _, _, rfl, ?_, ?_, ?_⟩ | refine ⟨⟨_, _, _, _, _, _, _, _, _, _, _, _, _, _, _, _, _, _, _, _, _, _, _, _, _, _, _, _, _, _, _, _, _, _, _, _, _, _, _, _, _, _, _, rfl⟩, ?_, ?_, ?_⟩
  · have h1 := heap_setCell_same w0 pb 0 _ _ (S t3) HP.out
    exact heap_setCell_same _ pb 1 _ _ (S b4) h1
  · unfold MkAt
    rw [Below.heap_setCell _ _ _ _ hne, Below.heap_setCell _ _ _ _ hne]; exact HX.out
  · exact below_set (below_set (Below.refl _ _))
end Go.Proofs.YtfkdailfcmnjlaaGreatDoor

namespace Go.Proofs.YtfkdailfcmnjlaaGreatDoor
open Go Go.RowKit
set_option maxRecDepth 100000
attribute [local go_sem ↓] Go.wp_at_zero Go.wp_at_succ

set_option maxHeartbeats 8000000 in
set_option maxRecDepth 1000000 in
theorem wt_5 {pb xb n : Nat} {m : Mk} {tq bq : List UInt8} {al bb : Bool} {r : Nat} {w0 : World} (c0 c1 c2 c3 c4 c5 c6 c7 c10 c13 c14 c15 c16 c17 c18 c19 c20 c21 c22 c23 c24 c25 c26 c27 c28 c29 c30 c31 c32 c33 c34 c35 c36 c37 c38 c39 c40 c41 c42 c43 c44 c45 c46 c47 c48 c49 c50 c51 c52 c53 c54 c55 c56 c57 c58 c59 c60 c61 c62 c63 c64 c65 c66 c67 c68 c69 c70 c71 c72 c73 c74 c75 c76 c77 c78 c79 c80 c81 c82 c83 c84 c85 c86 c87 c88 c89 c90 c91 c92 c93 c94 c95 c96 c97 c98 c99 c100 c101 c102 c103 c104 c105 c106 c107 c108 c109 c110 c111 c112 c113 c114 c115 c116 c117 c118 c119 c120 c121 c122 c123 c124 c125 c126 c127 c128 c129 c130 c131 c132 c133 c134 c135 c136 c137 c138 c139 : Value) (hx : MkAt w0 xb m) (hp : WrAt w0 pb tq bq al r) (hr : r ≤ 100) (hn : n ≤ 100) :
    Code.wp Tryz.prog (behindN 5 ((Tryz.f16.body.bind (blkNo 3)).getD .skip)) (JN (fun a' w' => ∃ (u125 u126 u127 u128 u129 u130 u131 u132 u133 u134 u135 u136 u137 u138 : Value), a' = ⟨#[c0, c1, c2, c3, c4, c5, c6, c7, .pointer (some ⟨pb, 0, none⟩), .int .i64 (n : Nat), c10, .pointer (some ⟨xb, 0, none⟩), S (headA bb), c13, c14, c15, c16, c17, c18, c19, c20, c21, c22, c23, c24, c25, c26, c27, c28, c29, c30, c31, c32, c33, c34, c35, c36, c37, c38, c39, c40, c41, c42, c43, c44, c45, c46, c47, c48, c49, c50, c51, c52, c53, c54, c55, c56, c57, c58, c59, c60, c61, c62, c63, c64, c65, c66, c67, c68, c69, c70, c71, c72, c73, c74, c75, c76, c77, c78, c79, c80, c81, c82, c83, c84, c85, c86, c87, c88, c89, c90, c91, c92, c93, c94, c95, c96, c97, c98, c99, c100, c101, c102, c103, c104, c105, c106, c107, c108, c109, c110, c111, c112, c113, c114, c115, c116, c117, c118, c119, c120, c121, c122, c123, c124, u125, u126, u127, u128, u129, u130, u131, u132, u133, u134, u135, u136, u137, u138, c139], []⟩ ∧ WrAt w' pb tq bq (if m.told = 1 ∧ r = 0 then bb else al) (if m.told = 1 ∧ r = 0 then n else r) ∧ Below pb w0 w')) ⟨#[c0, c1, c2, c3, c4, c5, c6, c7, .pointer (some ⟨pb, 0, none⟩), .int .i64 (n : Nat), c10, .pointer (some ⟨xb, 0, none⟩), S (headA bb), c13, c14, c15, c16, c17, c18, c19, c20, c21, c22, c23, c24, c25, c26, c27, c28, c29, c30, c31, c32, c33, c34, c35, c36, c37, c38, c39, c40, c41, c42, c43, c44, c45, c46, c47, c48, c49, c50, c51, c52, c53, c54, c55, c56, c57, c58, c59, c60, c61, c62, c63, c64, c65, c66, c67, c68, c69, c70, c71, c72, c73, c74, c75, c76, c77, c78, c79, c80, c81, c82, c83, c84, c85, c86, c87, c88, c89, c90, c91, c92, c93, c94, c95, c96, c97, c98, c99, c100, c101, c102, c103, c104, c105, c106, c107, c108, c109, c110, c111, c112, c113, c114, c115, c116, c117, c118, c119, c120, c121, c122, c123, c124, c125, c126, c127, c128, c129, c130, c131, c132, c133, c134, c135, c136, c137, c138, c139], []⟩ w0 := by
  obtain ⟨_, _, x2, _⟩ := mk_cells hx
  have HP : Hid _ := hp
  have y2 : w0.cell? ⟨pb, 2, none⟩ = some (.bool al) := cell_of_row w0 _ 2 _ _ _ hp
  have y3 : w0.cell? ⟨pb, 3, none⟩ = some (.int .i64 (r : Nat)) := cell_of_row w0 _ 3 _ _ _ hp
  have y4 : w0.cell? ⟨pb, 4, none⟩ = some (.int .i64 0) := cell_of_row w0 _ 4 _ _ _ hp
  have f2 : w0.frozen? ⟨pb, 2, none⟩ = false := by unfold WrAt at hp; simp [World.frozen?, hp]
  have f3 : w0.frozen? ⟨pb, 3, none⟩ = false := by unfold WrAt at hp; simp [World.frozen?, hp]
  have f4 : w0.frozen? ⟨pb, 4, none⟩ = false := by unfold WrAt at hp; simp [World.frozen?, hp]
  clear hx hp
  by_cases h1 : m.told = 1
  · have i1 : (m.told == 1) = true := by simp [h1]
    by_cases h2 : r = 0
    · rw [if_pos ⟨h1, h2⟩, if_pos ⟨h1, h2⟩]
      subst h2
      clear h1
      cases bb with
      | true =>
        have eb : headA true = wsAllow := rfl
        rw [eb]
        unfold wsAllow
        conv => arg 2; whnf
        go_wp2_with fail
        first | refine ⟨_, _, _, _, _, _, _, _, _, _, _, _, _, _, rfl, ?_, ?_⟩ | refine ⟨⟨_, _, _, _, _, _, _, _, _, _, _, _, _, _, rfl⟩, ?_, ?_⟩
        · have h1 := heap_setCell_same w0 pb 2 _ _ (.bool true) HP.out
          have h2 := heap_setCell_same _ pb 3 _ _ (.int .i64 (n : Nat)) h1
          exact heap_setCell_same _ pb 4 _ _ (.int .i64 0) h2
        · exact below_set (below_set (below_set (Below.refl _ _)))
      | false =>
        have eb : headA false = wsDeny := rfl
        rw [eb]
        unfold wsDeny
        conv => arg 2; whnf
        go_wp2_with fail
        first | refine ⟨_, _, _, _, _, _, _, _, _, _, _, _, _, _, rfl, ?_, ?_⟩ | refine ⟨⟨_, _, _, _, _, _, _, _, _, _, _, _, _, _, rfl⟩, ?_, ?_⟩
        · have h1 := heap_setCell_same w0 pb 2 _ _ (.bool false) HP.out
          have h2 := heap_setCell_same _ pb 3 _ _ (.int .i64 (n : Nat)) h1
          exact heap_setCell_same _ pb 4 _ _ (.int .i64 0) h2
        · exact below_set (below_set (below_set (Below.refl _ _)))
    · rw [if_neg (fun h => h2 h.2), if_neg (fun h => h2 h.2)]
      have i2 : ((r : Int) == 0) = false := by simp; omega
      clear h1 h2
      conv => arg 2; whnf
      go_wp2_with fail
      first | exact ⟨_, _, _, _, _, _, _, _, _, _, _, _, _, _, rfl, HP.out, Below.refl _ _⟩ | exact ⟨⟨_, _, _, _, _, _, _, _, _, _, _, _, _, _, rfl⟩, HP.out, Below.refl _ _⟩
  · rw [if_neg (fun h => h1 h.1), if_neg (fun h => h1 h.1)]
    have i1 : (m.told == 1) = false := by simpa using h1
    clear h1
    conv => arg 2; whnf
    go_wp2_with fail
    first | exact ⟨_, _, _, _, _, _, _, _, _, _, _, _, _, _, rfl, HP.out, Below.refl _ _⟩ | exact ⟨⟨_, _, _, _, _, _, _, _, _, _, _, _, _, _, rfl⟩, HP.out, Below.refl _ _⟩
end Go.Proofs.YtfkdailfcmnjlaaGreatDoor

namespace Go.Proofs.YtfkdailfcmnjlaaGreatDoor
open Go Go.RowKit
set_option maxRecDepth 100000
attribute [local go_sem ↓] Go.wp_at_zero Go.wp_at_succ

theorem rnd_eq : ((Tryz.f16.body.bind (blkNo 3)).getD .skip) = .seq (headOf ((Tryz.f16.body.bind (blkNo 3)).getD .skip)) (.seq (headOf (behindN 1 ((Tryz.f16.body.bind (blkNo 3)).getD .skip))) (.seq (headOf (behindN 2 ((Tryz.f16.body.bind (blkNo 3)).getD .skip))) (.seq (headOf (behindN 3 ((Tryz.f16.body.bind (blkNo 3)).getD .skip))) (.seq (headOf (behindN 4 ((Tryz.f16.body.bind (blkNo 3)).getD .skip))) (behindN 5 ((Tryz.f16.body.bind (blkNo 3)).getD .skip)))))) := by kernel_rfl
theorem says_zero (q : List (Mk × Bool)) : ∀ n, (saysW q n).2 = 0 → (saysW q n).1 = false := by
  induction q with
  | nil => intro n _; rfl
  | cons x q ih =>
    intro n h
    rw [saysW] at h ⊢
    by_cases hx : x.1.told = 1
    · rw [if_pos hx] at h; simp at h
    · rw [if_neg hx] at h ⊢; exact ih _ h
theorem says_le (q : List (Mk × Bool)) : ∀ n, (saysW q n).2 ≤ n + q.length := by
  induction q with
  | nil => intro n; simp [saysW]
  | cons x q ih =>
    intro n
    rw [saysW]
    by_cases hx : x.1.told = 1
    · rw [if_pos hx]; simp
    · rw [if_neg hx]; have := ih (n + 1); simp; omega
theorem says_step (q : List (Mk × Bool)) (m : Mk) (bb : Bool) : (saysW (q ++ [(m, bb)]) 0).1 = (if m.told = 1 ∧ (saysW q 0).2 = 0 then bb else (saysW q 0).1) ∧ (saysW (q ++ [(m, bb)]) 0).2 = (if m.told = 1 ∧ (saysW q 0).2 = 0 then q.length + 1 else (saysW q 0).2) := by
  rw [saysW_snoc]
  by_cases h0 : (saysW q 0).2 = 0
  · rw [if_pos h0]
    by_cases h1 : m.told = 1
    · rw [if_pos h1, if_pos ⟨h1, h0⟩, if_pos ⟨h1, h0⟩]; simp
    · rw [if_neg h1, if_neg (fun h => h1 h.1), if_neg (fun h => h1 h.1)]
      exact ⟨(says_zero q 0 h0).symm, h0.symm⟩
  · rw [if_neg h0, if_neg (fun h => h0 h.2), if_neg (fun h => h0 h.2)]
    exact ⟨rfl, rfl⟩
theorem headA_len (b : Bool) : (headA b).length ≤ 9 := by cases b <;> decide
theorem tw_len {fl : List Int} {q : List (Mk × Bool)} (hq : Good3 fl q) (hl : q.length ≤ 3) : (textW q).length ≤ 10000 ∧ (bareW q).length ≤ 10000 := by
  cases q with
  | nil => exact ⟨Nat.zero_le _, Nat.zero_le _⟩
  | cons r q =>
    obtain ⟨k1, k2⟩ := textR_len (fl := fl) q (fun r hr => hq r (by simp [hr]))
    have hm := hq r (by simp)
    have ht := hm.text
    have hb := hm.bare
    have ha := headA_len r.2
    simp at hl
    constructor
    · simp [textW, wsLet, wFirst, wsEq]; omega
    · simp [bareW, wsLet, wFirst]; omega
theorem text_step (q : List (Mk × Bool)) (r : Mk × Bool) (h : q ≠ []) : textW (q ++ [r]) = textW q ++ headA r.2 ++ r.1.text ++ [59, 10] ∧ bareW (q ++ [r]) = bareW q ++ headA r.2 ++ [10] ++ r.1.bare ++ [32, 59] := by
  rw [textW_snoc h, bareW_snoc h]; simp
theorem text_first (r : Mk × Bool) : textW ([] ++ [r]) = textW [] ++ [108, 101, 116, 32, 102, 105, 114, 115, 116, 32, 61, 32] ++ r.1.text ++ [59, 10] ++ headA r.2 ++ [102, 105, 114, 115, 116, 59, 10] ∧ bareW ([] ++ [r]) = bareW [] ++ [108, 101, 116, 32, 102, 105, 114, 115, 116, 61] ++ r.1.bare ++ [59] ++ headA r.2 ++ [40, 102, 105, 114, 115, 116, 41, 59] := by
  simp [textW, bareW, textR, bareR, wsLet, wFirst, wsEq]
set_option maxHeartbeats 8000000 in
set_option maxRecDepth 1000000 in
theorem wt_4 {pb xb n : Nat} {m : Mk} {bb : Bool} {q : List (Mk × Bool)} {al : Bool} {r : Nat} {w0 : World} (c0 c1 c2 c3 c4 c5 c6 c7 c10 c13 c14 c15 c16 c17 c18 c19 c20 c21 c22 c23 c24 c25 c26 c27 c28 c29 c30 c31 c32 c33 c34 c35 c36 c37 c38 c39 c40 c41 c42 c43 c44 c45 c46 c47 c48 c49 c50 c51 c52 c53 c54 c55 c56 c57 c58 c59 c60 c61 c62 c63 c64 c65 c66 c67 c68 c69 c70 c71 c72 c73 c74 c75 c76 c77 c78 c79 c80 c81 c82 c83 c84 c85 c86 c87 c88 c89 c90 c91 c92 c93 c94 c95 c96 c97 c98 c99 c100 c101 c102 c103 c104 c105 c106 c107 c108 c109 c110 c111 c112 c113 c114 c115 c116 c117 c118 c119 c120 c121 c122 c123 c124 c125 c126 c127 c128 c129 c130 c131 c132 c133 c134 c135 c136 c137 c138 c139 : Value) (hx : MkAt w0 xb m) (hp : WrAt w0 pb (textW q) (bareW q) al r) (hn : n = q.length + 1) (hne : xb ≠ pb) (hm : m.text.length ≤ 1000 ∧ m.bare.length ≤ 1000 ∧ (headA bb).length ≤ 100 ∧ (textW q).length ≤ 10000 ∧ (bareW q).length ≤ 10000) :
    Code.wp Tryz.prog (headOf (behindN 4 ((Tryz.f16.body.bind (blkNo 3)).getD .skip))) (JN (fun a' w' => ∃ (u82 u83 u84 u85 u86 u87 u88 u89 u90 u91 u92 u93 u94 u95 u96 u97 u98 u99 u100 u101 u102 u103 u104 u105 u106 u107 u108 u109 u110 u111 u112 u113 u114 u115 u116 u117 u118 u119 u120 u121 u122 u123 u124 : Value), a' = ⟨#[c0, c1, c2, c3, c4, c5, c6, c7, .pointer (some ⟨pb, 0, none⟩), .int .i64 (n : Nat), c10, .pointer (some ⟨xb, 0, none⟩), S (headA bb), c13, c14, c15, c16, c17, c18, c19, c20, c21, c22, c23, c24, c25, c26, c27, c28, c29, c30, c31, c32, c33, c34, c35, c36, c37, c38, c39, c40, c41, c42, c43, c44, c45, c46, c47, c48, c49, c50, c51, c52, c53, c54, c55, c56, c57, c58, c59, c60, c61, c62, c63, c64, c65, c66, c67, c68, c69, c70, c71, c72, c73, c74, c75, c76, c77, c78, c79, c80, c81, u82, u83, u84, u85, u86, u87, u88, u89, u90, u91, u92, u93, u94, u95, u96, u97, u98, u99, u100, u101, u102, u103, u104, u105, u106, u107, u108, u109, u110, u111, u112, u113, u114, u115, u116, u117, u118, u119, u120, u121, u122, u123, u124, c125, c126, c127, c128, c129, c130, c131, c132, c133, c134, c135, c136, c137, c138, c139], []⟩ ∧ WrAt w' pb (textW (q ++ [(m, bb)])) (bareW (q ++ [(m, bb)])) al r ∧ MkAt w' xb m ∧ Below pb w0 w')) ⟨#[c0, c1, c2, c3, c4, c5, c6, c7, .pointer (some ⟨pb, 0, none⟩), .int .i64 (n : Nat), c10, .pointer (some ⟨xb, 0, none⟩), S (headA bb), c13, c14, c15, c16, c17, c18, c19, c20, c21, c22, c23, c24, c25, c26, c27, c28, c29, c30, c31, c32, c33, c34, c35, c36, c37, c38, c39, c40, c41, c42, c43, c44, c45, c46, c47, c48, c49, c50, c51, c52, c53, c54, c55, c56, c57, c58, c59, c60, c61, c62, c63, c64, c65, c66, c67, c68, c69, c70, c71, c72, c73, c74, c75, c76, c77, c78, c79, c80, c81, c82, c83, c84, c85, c86, c87, c88, c89, c90, c91, c92, c93, c94, c95, c96, c97, c98, c99, c100, c101, c102, c103, c104, c105, c106, c107, c108, c109, c110, c111, c112, c113, c114, c115, c116, c117, c118, c119, c120, c121, c122, c123, c124, c125, c126, c127, c128, c129, c130, c131, c132, c133, c134, c135, c136, c137, c138, c139], []⟩ w0 := by
  cases q with
  | nil => exact wt_4a c0 c1 c2 c3 c4 c5 c6 c7 c10 c13 c14 c15 c16 c17 c18 c19 c20 c21 c22 c23 c24 c25 c26 c27 c28 c29 c30 c31 c32 c33 c34 c35 c36 c37 c38 c39 c40 c41 c42 c43 c44 c45 c46 c47 c48 c49 c50 c51 c52 c53 c54 c55 c56 c57 c58 c59 c60 c61 c62 c63 c64 c65 c66 c67 c68 c69 c70 c71 c72 c73 c74 c75 c76 c77 c78 c79 c80 c81 c82 c83 c84 c85 c86 c87 c88 c89 c90 c91 c92 c93 c94 c95 c96 c97 c98 c99 c100 c101 c102 c103 c104 c105 c106 c107 c108 c109 c110 c111 c112 c113 c114 c115 c116 c117 c118 c119 c120 c121 c122 c123 c124 c125 c126 c127 c128 c129 c130 c131 c132 c133 c134 c135 c136 c137 c138 c139 hx hp (by simpa using hn) hne hm (text_first (m, bb)).1 (text_first (m, bb)).2
  | cons y q => exact wt_4b c0 c1 c2 c3 c4 c5 c6 c7 c10 c13 c14 c15 c16 c17 c18 c19 c20 c21 c22 c23 c24 c25 c26 c27 c28 c29 c30 c31 c32 c33 c34 c35 c36 c37 c38 c39 c40 c41 c42 c43 c44 c45 c46 c47 c48 c49 c50 c51 c52 c53 c54 c55 c56 c57 c58 c59 c60 c61 c62 c63 c64 c65 c66 c67 c68 c69 c70 c71 c72 c73 c74 c75 c76 c77 c78 c79 c80 c81 c82 c83 c84 c85 c86 c87 c88 c89 c90 c91 c92 c93 c94 c95 c96 c97 c98 c99 c100 c101 c102 c103 c104 c105 c106 c107 c108 c109 c110 c111 c112 c113 c114 c115 c116 c117 c118 c119 c120 c121 c122 c123 c124 c125 c126 c127 c128 c129 c130 c131 c132 c133 c134 c135 c136 c137 c138 c139 hx hp (by simp at hn; omega) hne hm (text_step (y :: q) (m, bb) (by simp)).1 (text_step (y :: q) (m, bb) (by simp)).2
set_option maxHeartbeats 8000000 in
set_option maxRecDepth 1000000 in
theorem round_any {fl : List Int} {p pb g i L cap n : Nat} {m : Mk} {q : List (Mk × Bool)} {w0 : World} (c0 c1 c2 c3 c4 c6 c7 c11 c12 c13 c14 c15 c16 c17 c18 c19 c20 c21 c22 c23 c24 c25 c26 c27 c28 c29 c30 c31 c32 c33 c34 c35 c36 c37 c38 c39 c40 c41 c42 c43 c44 c45 c46 c47 c48 c49 c50 c51 c52 c53 c54 c55 c56 c57 c58 c59 c60 c61 c62 c63 c64 c65 c66 c67 c68 c69 c70 c71 c72 c73 c74 c75 c76 c77 c78 c79 c80 c81 c82 c83 c84 c85 c86 c87 c88 c89 c90 c91 c92 c93 c94 c95 c96 c97 c98 c99 c100 c101 c102 c103 c104 c105 c106 c107 c108 c109 c110 c111 c112 c113 c114 c115 c116 c117 c118 c119 c120 c121 c122 c123 c124 c125 c126 c127 c128 c129 c130 c131 c132 c133 c134 c135 c136 c137 c138 c139 : Value) (hp2 : w0.cell? ⟨p, 2, none⟩ = some (.slice (some ⟨g, 0, none⟩) L cap)) (hi : i < L) (hL : L ≤ 1000) (h0 : w0.cell? ⟨g, i * 4, none⟩ = some (S m.text)) (h1 : w0.cell? ⟨g, i * 4 + 1, none⟩ = some (S m.bare)) (h2 : w0.cell? ⟨g, i * 4 + 2, none⟩ = some (.int .i64 m.told)) (h3 : w0.cell? ⟨g, i * 4 + 3, none⟩ = some (.int .i64 (m.deep : Nat)))
    (hpb : WrAt w0 pb (textW q) (bareW q) (saysW q 0).1 (saysW q 0).2) (hn : q.length = n) (hn3 : n < 3) (hq : Good3 fl q) (hm : MkOK fl 116 m) :
    Code.wp Tryz.prog ((Tryz.f16.body.bind (blkNo 3)).getD .skip) (JN (fun a' w' => ∃ (u11 u12 u66 u67 u68 u69 u70 u71 u72 u73 u74 u75 u76 u77 u78 u79 u80 u81 u82 u83 u84 u85 u86 u87 u88 u89 u90 u91 u92 u93 u94 u95 u96 u97 u98 u99 u100 u101 u102 u103 u104 u105 u106 u107 u108 u109 u110 u111 u112 u113 u114 u115 u116 u117 u118 u119 u120 u121 u122 u123 u124 u125 u126 u127 u128 u129 u130 u131 u132 u133 u134 u135 u136 u137 u138 : Value), a' = ⟨#[c0, c1, c2, c3, c4, .pointer (some ⟨p, 0, none⟩), c6, c7, .pointer (some ⟨pb, 0, none⟩), .int .i64 ((n + 1 : Nat) : Int), .int .i64 (i : Nat), u11, u12, c13, c14, c15, c16, c17, c18, c19, c20, c21, c22, c23, c24, c25, c26, c27, c28, c29, c30, c31, c32, c33, c34, c35, c36, c37, c38, c39, c40, c41, c42, c43, c44, c45, c46, c47, c48, c49, c50, c51, c52, c53, c54, c55, c56, c57, c58, c59, c60, c61, c62, c63, c64, c65, u66, u67, u68, u69, u70, u71, u72, u73, u74, u75, u76, u77, u78, u79, u80, u81, u82, u83, u84, u85, u86, u87, u88, u89, u90, u91, u92, u93, u94, u95, u96, u97, u98, u99, u100, u101, u102, u103, u104, u105, u106, u107, u108, u109, u110, u111, u112, u113, u114, u115, u116, u117, u118, u119, u120, u121, u122, u123, u124, u125, u126, u127, u128, u129, u130, u131, u132, u133, u134, u135, u136, u137, u138, c139], []⟩ ∧ (WrAt w' pb (textW (q ++ [(m, (m.text.length + i) % 2 == 0)])) (bareW (q ++ [(m, (m.text.length + i) % 2 == 0)])) (saysW (q ++ [(m, (m.text.length + i) % 2 == 0)]) 0).1 (saysW (q ++ [(m, (m.text.length + i) % 2 == 0)]) 0).2 ∧ Below pb w0 w'))) ⟨#[c0, c1, c2, c3, c4, .pointer (some ⟨p, 0, none⟩), c6, c7, .pointer (some ⟨pb, 0, none⟩), .int .i64 (n : Nat), .int .i64 (i : Nat), c11, c12, c13, c14, c15, c16, c17, c18, c19, c20, c21, c22, c23, c24, c25, c26, c27, c28, c29, c30, c31, c32, c33, c34, c35, c36, c37, c38, c39, c40, c41, c42, c43, c44, c45, c46, c47, c48, c49, c50, c51, c52, c53, c54, c55, c56, c57, c58, c59, c60, c61, c62, c63, c64, c65, c66, c67, c68, c69, c70, c71, c72, c73, c74, c75, c76, c77, c78, c79, c80, c81, c82, c83, c84, c85, c86, c87, c88, c89, c90, c91, c92, c93, c94, c95, c96, c97, c98, c99, c100, c101, c102, c103, c104, c105, c106, c107, c108, c109, c110, c111, c112, c113, c114, c115, c116, c117, c118, c119, c120, c121, c122, c123, c124, c125, c126, c127, c128, c129, c130, c131, c132, c133, c134, c135, c136, c137, c138, c139], []⟩ w0 := by
  have hm1 := hm.text
  have hm2 := hm.bare
  obtain ⟨hw1, hw2⟩ := tw_len hq (by omega)
  have hd := headA_len ((m.text.length + i) % 2 == 0)
  have hsl := says_le q 0
  have hpl : pb < w0.heap.size := lt_of_get hpb
  rw [rnd_eq]
  refine wp_seq (wp_take (wt_0 _ _ _ _ _ _ _ _ _ _ _ _ _ _ _ _ _ _ _ _ _ _ _ _ _ _ _ _ _ _ _ _ _ _ _ _ _ _ _ _ _ _ _ _ _ _ _ _ _ _ _ _ _ _ _ _ _ _ _ _ _ _ _ _ _ _ _ _ _ _ _ _ _ _ _ _ _ _ _ _ _ _ _ _ _ _ _ _ _ _ _ _ _ _ _ _ _ _ _ _ _ _ _ _ _ _ _ _ _ _ _ _ _ _ _ _ _ _ _ _ _ _ _ _ _ _ _ _ _ _ _ _ _ _ _ _ _ _ hp2 hi h0 h1 h2 h3) ?_)
  rintro a1 w1 ⟨u66, u67, u68, u69, u70, u71, u72, rfl, rfl⟩
  show Code.wp _ _ _ _ _
  refine wp_seq (wp_take (wt_1 _ _ _ _ _ _ _ _ _ _ _ _ _ _ _ _ _ _ _ _ _ _ _ _ _ _ _ _ _ _ _ _ _ _ _ _ _ _ _ _ _ _ _ _ _ _ _ _ _ _ _ _ _ _ _ _ _ _ _ _ _ _ _ _ _ _ _ _ _ _ _ _ _ _ _ _ _ _ _ _ _ _ _ _ _ _ _ _ _ _ _ _ _ _ _ _ _ _ _ _ _ _ _ _ _ _ _ _ _ _ _ _ _ _ _ _ _ _ _ _ _ _ _ _ _ _ _ _ _ _ _ _ _ _ _ _ _ _ _ (by omega)) ?_)
  rintro a2 w2 ⟨u73, u74, rfl, rfl⟩
  rw [show ((n : Int) + 1) = ((n + 1 : Nat) : Int) from by omega]
  show Code.wp _ _ _ _ _
  refine wp_seq (wp_take (wt_2 _ _ _ _ _ _ _ _ _ _ _ _ _ _ _ _ _ _ _ _ _ _ _ _ _ _ _ _ _ _ _ _ _ _ _ _ _ _ _ _ _ _ _ _ _ _ _ _ _ _ _ _ _ _ _ _ _ _ _ _ _ _ _ _ _ _ _ _ _ _ _ _ _ _ _ _ _ _ _ _ _ _ _ _ _ _ _ _ _ _ _ _ _ _ _ _ _ _ _ _ _ _ _ _ _ _ _ _ _ _ _ _ _ _ _ _ _ _ _ _ _ _ _ _ _ _ _ _ _ _ _ _ _ _ _ _ _ _ _ _ ) ?_)
  rintro a3 w3 ⟨rfl, rfl⟩
  show Code.wp _ _ _ _ _
  have hx : MkAt (w0.alloc (mkO m)) w0.heap.size m := mk_new rfl
  have hpb1 : WrAt (w0.alloc (mkO m)) pb (textW q) (bareW q) (saysW q 0).1 (saysW q 0).2 := (Below.heap_alloc _ _ _ hpl).trans hpb
  refine wp_seq (wp_take (wt_3 _ _ _ _ _ _ _ _ _ _ _ _ _ _ _ _ _ _ _ _ _ _ _ _ _ _ _ _ _ _ _ _ _ _ _ _ _ _ _ _ _ _ _ _ _ _ _ _ _ _ _ _ _ _ _ _ _ _ _ _ _ _ _ _ _ _ _ _ _ _ _ _ _ _ _ _ _ _ _ _ _ _ _ _ _ _ _ _ _ _ _ _ _ _ _ _ _ _ _ _ _ _ _ _ _ _ _ _ _ _ _ _ _ _ _ _ _ _ _ _ _ _ _ _ _ _ _ _ _ _ _ _ _ _ _ _ _ hx (by omega) (by omega)) ?_)
  rintro a4 w4 ⟨u75, u76, u77, u78, u79, u80, u81, rfl, rfl⟩
  show Code.wp _ _ _ _ _
  generalize hbb : ((m.text.length + i) % 2 == 0) = bb at *
  refine wp_seq (wp_take (wt_4 (q := q) _ _ _ _ _ _ _ _ _ _ _ _ _ _ _ _ _ _ _ _ _ _ _ _ _ _ _ _ _ _ _ _ _ _ _ _ _ _ _ _ _ _ _ _ _ _ _ _ _ _ _ _ _ _ _ _ _ _ _ _ _ _ _ _ _ _ _ _ _ _ _ _ _ _ _ _ _ _ _ _ _ _ _ _ _ _ _ _ _ _ _ _ _ _ _ _ _ _ _ _ _ _ _ _ _ _ _ _ _ _ _ _ _ _ _ _ _ _ _ _ _ _ _ _ _ _ _ _ _ _ _ _ _ _ _ _ hx hpb1 (by omega) (by omega) ⟨by omega, by omega, by omega, by omega, by omega⟩) ?_)
  intro a5 w5 h5
  obtain ⟨u82, h5⟩ := h5
  obtain ⟨u83, h5⟩ := h5
  obtain ⟨u84, h5⟩ := h5
  obtain ⟨u85, h5⟩ := h5
  obtain ⟨u86, h5⟩ := h5
  obtain ⟨u87, h5⟩ := h5
  obtain ⟨u88, h5⟩ := h5
  obtain ⟨u89, h5⟩ := h5
  obtain ⟨u90, h5⟩ := h5
  obtain ⟨u91, h5⟩ := h5
  obtain ⟨u92, h5⟩ := h5
  obtain ⟨u93, h5⟩ := h5
  obtain ⟨u94, h5⟩ := h5
  obtain ⟨u95, h5⟩ := h5
  obtain ⟨u96, h5⟩ := h5
  obtain ⟨u97, h5⟩ := h5
  obtain ⟨u98, h5⟩ := h5
  obtain ⟨u99, h5⟩ := h5
  obtain ⟨u100, h5⟩ := h5
  obtain ⟨u101, h5⟩ := h5
  obtain ⟨u102, h5⟩ := h5
  obtain ⟨u103, h5⟩ := h5
  obtain ⟨u104, h5⟩ := h5
  obtain ⟨u105, h5⟩ := h5
  obtain ⟨u106, h5⟩ := h5
  obtain ⟨u107, h5⟩ := h5
  obtain ⟨u108, h5⟩ := h5
  obtain ⟨u109, h5⟩ := h5
  obtain ⟨u110, h5⟩ := h5
  obtain ⟨u111, h5⟩ := h5
  obtain ⟨u112, h5⟩ := h5
  obtain ⟨u113, h5⟩ := h5
  obtain ⟨u114, h5⟩ := h5
  obtain ⟨u115, h5⟩ := h5
  obtain ⟨u116, h5⟩ := h5
  obtain ⟨u117, h5⟩ := h5
  obtain ⟨u118, h5⟩ := h5
  obtain ⟨u119, h5⟩ := h5
  obtain ⟨u120, h5⟩ := h5
  obtain ⟨u121, h5⟩ := h5
  obtain ⟨u122, h5⟩ := h5
  obtain ⟨u123, h5⟩ := h5
  obtain ⟨u124, h5⟩ := h5
  obtain ⟨rfl, hpb5, hx5, hB5⟩ := h5
  show Code.wp _ _ _ _ _
  refine wp_take (wt_5 _ _ _ _ _ _ _ _ _ _ _ _ _ _ _ _ _ _ _ _ _ _ _ _ _ _ _ _ _ _ _ _ _ _ _ _ _ _ _ _ _ _ _ _ _ _ _ _ _ _ _ _ _ _ _ _ _ _ _ _ _ _ _ _ _ _ _ _ _ _ _ _ _ _ _ _ _ _ _ _ _ _ _ _ _ _ _ _ _ _ _ _ _ _ _ _ _ _ _ _ _ _ _ _ _ _ _ _ _ _ _ _ _ _ _ _ _ _ _ _ _ _ _ _ _ _ _ _ _ _ _ _ _ _ _ _ hx5 hpb5 (by omega) (by omega)) ?_
  rintro a6 w6 ⟨u125, u126, u127, u128, u129, u130, u131, u132, u133, u134, u135, u136, u137, u138, rfl, hpb6, hB6⟩
  obtain ⟨e1, e2⟩ := says_step q m bb
  rw [hn] at e2
  rw [← e1, ← e2] at hpb6
  exact ⟨_, _, _, _, _, _, _, _, _, _, _, _, _, _, _, _, _, _, _, _, _, _, _, _, _, _, _, _, _, _, _, _, _, _, _, _, _, _, _, _, _, _, _, _, _, _, _, _, _, _, _, _, _, _, _, _, _, _, _, _, _, _, _, _, _, _, _, _, _, _, _, _, _, _, _, rfl, hpb6, (((Below.refl _ _).alloc (by omega) _).trans hB5).trans hB6⟩
end Go.Proofs.YtfkdailfcmnjlaaGreatDoor

namespace Go.Proofs.YtfkdailfcmnjlaaGreatDoor
open Go Go.RowKit
set_option maxRecDepth 100000
attribute [local go_sem ↓] Go.wp_at_zero Go.wp_at_succ

/-- The truths that were made, in memory. -/
def Truths (w : World) (p : Nat) (lt : List Mk) : Prop := ∀ i, i < lt.length → ∃ g cap, w.cell? ⟨p, 2, none⟩ = some (.slice (some ⟨g, 0, none⟩) lt.length cap) ∧ w.cell? ⟨g, i * 4, none⟩ = some (S (lt.getD i noMk).text) ∧ w.cell? ⟨g, i * 4 + 1, none⟩ = some (S (lt.getD i noMk).bare) ∧ w.cell? ⟨g, i * 4 + 2, none⟩ = some (.int .i64 (lt.getD i noMk).told) ∧ w.cell? ⟨g, i * 4 + 3, none⟩ = some (.int .i64 ((lt.getD i noMk).deep : Nat))
/-- What the second loop keeps. -/
def Loop2I (fl : List Int) (pb : Nat) (w0 wr : World) (q : List (Mk × Bool)) : Prop := Good3 fl q ∧ WrAt wr pb (textW q) (bareW q) (saysW q 0).1 (saysW q 0).2 ∧ Below pb w0 wr
set_option maxHeartbeats 8000000 in
set_option maxRecDepth 1000000 in
theorem loop_2 {fl : List Int} {p pb L : Nat} {lt : List Mk} {w0 : World} (c0 c1 c2 c3 c4 c6 c7 c11 c12 c13 c14 c15 c16 c17 c18 c19 c20 c21 c22 c23 c24 c25 c26 c27 c28 c29 c30 c31 c32 c33 c34 c35 c36 c37 c38 c39 c40 c41 c42 c43 c44 c45 c46 c47 c48 c49 c50 c51 c52 c53 c54 c55 c56 c57 c58 c59 c60 c61 c62 c63 c64 c65 c66 c67 c68 c69 c70 c71 c72 c73 c74 c75 c76 c77 c78 c79 c80 c81 c82 c83 c84 c85 c86 c87 c88 c89 c90 c91 c92 c93 c94 c95 c96 c97 c98 c99 c100 c101 c102 c103 c104 c105 c106 c107 c108 c109 c110 c111 c112 c113 c114 c115 c116 c117 c118 c119 c120 c121 c122 c123 c124 c125 c126 c127 c128 c129 c130 c131 c132 c133 c134 c135 c136 c137 c138 c139 : Value) (hlt : lt.length = L) (hL : L ≤ 1000) (hT : ∀ W, Below pb w0 W → Truths W p lt) (hg : ∀ m ∈ lt, MkOK fl 116 m) (hpb : WrAt w0 pb [] [] false 0) :
    Code.wp Tryz.prog ((Tryz.f16.body.bind (fun c => blkIn (behindN 3 c))).getD .skip) (JN (fun a' w' => ∃ (u9 u10 u11 u12 u58 u59 u60 u61 u62 u63 u64 u65 u66 u67 u68 u69 u70 u71 u72 u73 u74 u75 u76 u77 u78 u79 u80 u81 u82 u83 u84 u85 u86 u87 u88 u89 u90 u91 u92 u93 u94 u95 u96 u97 u98 u99 u100 u101 u102 u103 u104 u105 u106 u107 u108 u109 u110 u111 u112 u113 u114 u115 u116 u117 u118 u119 u120 u121 u122 u123 u124 u125 u126 u127 u128 u129 u130 u131 u132 u133 u134 u135 u136 u137 u138 : Value), a' = ⟨#[c0, c1, c2, c3, c4, .pointer (some ⟨p, 0, none⟩), c6, c7, .pointer (some ⟨pb, 0, none⟩), u9, u10, u11, u12, c13, c14, c15, c16, c17, c18, c19, c20, c21, c22, c23, c24, c25, c26, c27, c28, c29, c30, c31, c32, c33, c34, c35, c36, c37, c38, c39, c40, c41, c42, c43, c44, c45, c46, c47, c48, c49, c50, c51, c52, c53, c54, c55, c56, c57, u58, u59, u60, u61, u62, u63, u64, u65, u66, u67, u68, u69, u70, u71, u72, u73, u74, u75, u76, u77, u78, u79, u80, u81, u82, u83, u84, u85, u86, u87, u88, u89, u90, u91, u92, u93, u94, u95, u96, u97, u98, u99, u100, u101, u102, u103, u104, u105, u106, u107, u108, u109, u110, u111, u112, u113, u114, u115, u116, u117, u118, u119, u120, u121, u122, u123, u124, u125, u126, u127, u128, u129, u130, u131, u132, u133, u134, u135, u136, u137, u138, c139], []⟩ ∧ ∃ q, q.length ≤ 3 ∧ Loop2I fl pb w0 w' q)) ⟨#[c0, c1, c2, c3, c4, .pointer (some ⟨p, 0, none⟩), c6, c7, .pointer (some ⟨pb, 0, none⟩), .int .i64 0, .int .i64 ((L : Int) - 1), c11, c12, c13, c14, c15, c16, c17, c18, c19, c20, c21, c22, c23, c24, c25, c26, c27, c28, c29, c30, c31, c32, c33, c34, c35, c36, c37, c38, c39, c40, c41, c42, c43, c44, c45, c46, c47, c48, c49, c50, c51, c52, c53, c54, c55, c56, c57, c58, c59, c60, c61, c62, c63, c64, c65, c66, c67, c68, c69, c70, c71, c72, c73, c74, c75, c76, c77, c78, c79, c80, c81, c82, c83, c84, c85, c86, c87, c88, c89, c90, c91, c92, c93, c94, c95, c96, c97, c98, c99, c100, c101, c102, c103, c104, c105, c106, c107, c108, c109, c110, c111, c112, c113, c114, c115, c116, c117, c118, c119, c120, c121, c122, c123, c124, c125, c126, c127, c128, c129, c130, c131, c132, c133, c134, c135, c136, c137, c138, c139], []⟩ w0 := by
  have HT : Hid (∀ W, Below pb w0 W → Truths W p lt) := hT
  have HG : Hid (∀ i, i < L → MkOK fl 116 (lt.getD i noMk)) := fun i hi => by
    rw [List.getD_eq_getElem?_getD, List.getElem?_eq_getElem (by omega)]
    exact hg _ (List.getElem_mem _)
  have H0 : Hid (Loop2I fl pb w0 w0 []) := ⟨fun r hr => by simp at hr, hpb, Below.refl _ _⟩
  have HLT : Hid (lt.length = L) := hlt
  clear hT hg hpb hlt
  conv => arg 2; whnf
  go_wp2_with fail
  go_loopw [9, 10] (fun nv iv wr => ∃ q : List (Mk × Bool), q.length ≤ 3 ∧ q.length ≤ L ∧ nv = .int .i64 ((q.length : Nat) : Int) ∧ iv = .int .i64 ((L : Int) - 1 - ((q.length : Nat) : Int)) ∧ Hid (Loop2I fl pb w0 wr q)) (fun nv _ _ => 4 - (intOf nv).toNat)
  case atStart => exact ⟨[], by simp, by simp, rfl, by simp, H0.out⟩
  case round =>
    obtain ⟨q, hq3, hqL, rfl, rfl, HI⟩ := hrel
    generalize hqn : q.length = n at *
    have HQN : Hid (q.length = n) := hqn
    clear hqn
    by_cases h1 : n < L
    · by_cases h2 : n < 3
      · obtain ⟨i, hi⟩ : ∃ i : Nat, L - 1 - n = i := ⟨_, rfl⟩
        have hi' : (L : Int) - 1 - (n : Int) = (i : Int) := by omega
        have hiL : i < L := by omega
        rw [hi']
        have HIE : Hid ((L : Int) - 1 - (n : Int) = (i : Int)) := hi'
        have i0 : (0 : Int) ≤ (i : Int) := by omega
        have n3 : (n : Int) < 3 := by omega
        obtain ⟨hgq, hpq, hBq⟩ := HI.out
        obtain ⟨g, cap, t0, t1, t2, t3, t4⟩ := HT.out wr hBq i (by rw [HLT.out]; exact hiL)
        rw [HLT.out] at t0
        have hmk := HG.out i hiL
        clear hi hi'
        go_upto_block 3 with fail
        refine wp_block (wp_take (round_any _ _ _ _ _ _ _ _ _ _ _ _ _ _ _ _ _ _ _ _ _ _ _ _ _ _ _ _ _ _ _ _ _ _ _ _ _ _ _ _ _ _ _ _ _ _ _ _ _ _ _ _ _ _ _ _ _ _ _ _ _ _ _ _ _ _ _ _ _ _ _ _ _ _ _ _ _ _ _ _ _ _ _ _ _ _ _ _ _ _ _ _ _ _ _ _ _ _ _ _ _ _ _ _ _ _ _ _ _ _ _ _ _ _ _ _ _ _ _ _ _ _ _ _ _ _ _ _ _ _ _ _ _ _ _ _ t0 hiL hL t1 t2 t3 t4 hpq HQN.out h2 hgq hmk) ?_)
        intro a1 w1 h1'
        obtain ⟨u11, h1'⟩ := h1'
        obtain ⟨u12, h1'⟩ := h1'
        obtain ⟨u66, h1'⟩ := h1'
        obtain ⟨u67, h1'⟩ := h1'
        obtain ⟨u68, h1'⟩ := h1'
        obtain ⟨u69, h1'⟩ := h1'
        obtain ⟨u70, h1'⟩ := h1'
        obtain ⟨u71, h1'⟩ := h1'
        obtain ⟨u72, h1'⟩ := h1'
        obtain ⟨u73, h1'⟩ := h1'
        obtain ⟨u74, h1'⟩ := h1'
        obtain ⟨u75, h1'⟩ := h1'
        obtain ⟨u76, h1'⟩ := h1'
        obtain ⟨u77, h1'⟩ := h1'
        obtain ⟨u78, h1'⟩ := h1'
        obtain ⟨u79, h1'⟩ := h1'
        obtain ⟨u80, h1'⟩ := h1'
        obtain ⟨u81, h1'⟩ := h1'
        obtain ⟨u82, h1'⟩ := h1'
        obtain ⟨u83, h1'⟩ := h1'
        obtain ⟨u84, h1'⟩ := h1'
        obtain ⟨u85, h1'⟩ := h1'
        obtain ⟨u86, h1'⟩ := h1'
        obtain ⟨u87, h1'⟩ := h1'
        obtain ⟨u88, h1'⟩ := h1'
        obtain ⟨u89, h1'⟩ := h1'
        obtain ⟨u90, h1'⟩ := h1'
        obtain ⟨u91, h1'⟩ := h1'
        obtain ⟨u92, h1'⟩ := h1'
        obtain ⟨u93, h1'⟩ := h1'
        obtain ⟨u94, h1'⟩ := h1'
        obtain ⟨u95, h1'⟩ := h1'
        obtain ⟨u96, h1'⟩ := h1'
        obtain ⟨u97, h1'⟩ := h1'
        obtain ⟨u98, h1'⟩ := h1'
        obtain ⟨u99, h1'⟩ := h1'
        obtain ⟨u100, h1'⟩ := h1'
        obtain ⟨u101, h1'⟩ := h1'
        obtain ⟨u102, h1'⟩ := h1'
        obtain ⟨u103, h1'⟩ := h1'
        obtain ⟨u104, h1'⟩ := h1'
        obtain ⟨u105, h1'⟩ := h1'
        obtain ⟨u106, h1'⟩ := h1'
        obtain ⟨u107, h1'⟩ := h1'
        obtain ⟨u108, h1'⟩ := h1'
        obtain ⟨u109, h1'⟩ := h1'
        obtain ⟨u110, h1'⟩ := h1'
        obtain ⟨u111, h1'⟩ := h1'
        obtain ⟨u112, h1'⟩ := h1'
        obtain ⟨u113, h1'⟩ := h1'
        obtain ⟨u114, h1'⟩ := h1'
        obtain ⟨u115, h1'⟩ := h1'
        obtain ⟨u116, h1'⟩ := h1'
        obtain ⟨u117, h1'⟩ := h1'
        obtain ⟨u118, h1'⟩ := h1'
        obtain ⟨u119, h1'⟩ := h1'
        obtain ⟨u120, h1'⟩ := h1'
        obtain ⟨u121, h1'⟩ := h1'
        obtain ⟨u122, h1'⟩ := h1'
        obtain ⟨u123, h1'⟩ := h1'
        obtain ⟨u124, h1'⟩ := h1'
        obtain ⟨u125, h1'⟩ := h1'
        obtain ⟨u126, h1'⟩ := h1'
        obtain ⟨u127, h1'⟩ := h1'
        obtain ⟨u128, h1'⟩ := h1'
        obtain ⟨u129, h1'⟩ := h1'
        obtain ⟨u130, h1'⟩ := h1'
        obtain ⟨u131, h1'⟩ := h1'
        obtain ⟨u132, h1'⟩ := h1'
        obtain ⟨u133, h1'⟩ := h1'
        obtain ⟨u134, h1'⟩ := h1'
        obtain ⟨u135, h1'⟩ := h1'
        obtain ⟨u136, h1'⟩ := h1'
        obtain ⟨u137, h1'⟩ := h1'
        obtain ⟨u138, h1'⟩ := h1'
        obtain ⟨rfl, hp1, hB1⟩ := h1'
        simp only [Exit.inBlock, Exit.then]
        have HN : Hid (Loop2I fl pb w0 w1 (q ++ [(lt.getD i noMk, ((lt.getD i noMk).text.length + i) % 2 == 0)])) := ⟨hgq.snoc hmk, hp1, hBq.trans hB1⟩
        clear hgq hpq hBq t0 t1 t2 t3 t4 hmk hp1 hB1
        go_wp2_with fail
        go_roundw
        case rel => exact ⟨_, by simp; have := HQN.out; omega, by simp; have := HQN.out; omega, by rw [List.length_append, HQN.out]; rfl, by rw [List.length_append, HQN.out, ← HIE.out]; simp; omega, HN.out⟩
        case measure => simp [intOf]; omega
      · obtain rfl : n = 3 := by omega
        have i0 : (0 : Int) ≤ (L : Int) - 1 - 3 := by omega
        go_wp2_with fail
        first | exact ⟨_, _, _, _, _, _, _, _, _, _, _, _, _, _, _, _, _, _, _, _, _, _, _, _, _, _, _, _, _, _, _, _, _, _, _, _, _, _, _, _, _, _, _, _, _, _, _, _, _, _, _, _, _, _, _, _, _, _, _, _, _, _, _, _, _, _, _, _, _, _, _, _, _, _, _, _, _, _, _, _, _, _, _, _, _, rfl, q, by rw [HQN.out]; decide, HI.out⟩ | exact ⟨⟨_, _, _, _, _, _, _, _, _, _, _, _, _, _, _, _, _, _, _, _, _, _, _, _, _, _, _, _, _, _, _, _, _, _, _, _, _, _, _, _, _, _, _, _, _, _, _, _, _, _, _, _, _, _, _, _, _, _, _, _, _, _, _, _, _, _, _, _, _, _, _, _, _, _, _, _, _, _, _, _, _, _, _, _, _, rfl⟩, q, by rw [HQN.out]; decide, HI.out⟩
    · obtain rfl : n = L := by omega
      have i0 : ¬ (0 : Int) ≤ (n : Int) - 1 - (n : Int) := by omega
      go_wp2_with fail
      first | exact ⟨_, _, _, _, _, _, _, _, _, _, _, _, _, _, _, _, _, _, _, _, _, _, _, _, _, _, _, _, _, _, _, _, _, _, _, _, _, _, _, _, _, _, _, _, _, _, _, _, _, _, _, _, _, _, _, _, _, _, _, _, _, _, _, _, _, _, _, _, _, _, _, _, _, _, _, _, _, _, _, _, _, _, _, _, _, rfl, q, by rw [HQN.out]; exact hq3, HI.out⟩ | exact ⟨⟨_, _, _, _, _, _, _, _, _, _, _, _, _, _, _, _, _, _, _, _, _, _, _, _, _, _, _, _, _, _, _, _, _, _, _, _, _, _, _, _, _, _, _, _, _, _, _, _, _, _, _, _, _, _, _, _, _, _, _, _, _, _, _, _, _, _, _, _, _, _, _, _, _, _, _, _, _, _, _, _, _, _, _, _, _, rfl⟩, q, by rw [HQN.out]; exact hq3, HI.out⟩
end Go.Proofs.YtfkdailfcmnjlaaGreatDoor
