/-
  Conditions made of those there are: whichever kind. Conditions made of those there are: the two that are taken of a row. Conditions made of those there are: the two that are taken of a row. The law of plain forms, from what 'written' answers.
-/
import Derived.Test.YtfkdailfcmnjlaaGreatDoorPlain01
import Derived.Test.YtfkdailfcmnjlaaGreatDoorPlain02
import Derived.Test.YtfkdailfcmnjlaaGreatDoorPlain03
import Derived.Test.YtfkdailfcmnjlaaGreatDoorPlain04
import Derived.Test.YtfkdailfcmnjlaaGreatDoorPlain05
import Derived.Test.YtfkdailfcmnjlaaGreatDoorPlain06
import Derived.Test.YtfkdailfcmnjlaaGreatDoorPlain07
import Derived.Test.YtfkdailfcmnjlaaGreatDoorPlain08
import Derived.Test.YtfkdailfcmnjlaaGreatDoorPlain09
import Derived.Test.YtfkdailfcmnjlaaGreatDoorPlain10
import Derived.Test.YtfkdailfcmnjlaaGreatDoorPlain11
import Derived.Test.YtfkdailfcmnjlaaGreatDoorPlain12
import Derived.Test.YtfkdailfcmnjlaaGreatDoorPlain13
import Derived.Test.YtfkdailfcmnjlaaGreatDoorPlain14
import Derived.Test.YtfkdailfcmnjlaaGreatDoorPlain15
import Derived.Test.YtfkdailfcmnjlaaGreatDoorPlain16
import Derived.Test.YtfkdailfcmnjlaaGreatDoorPlain17
import Derived.Test.YtfkdailfcmnjlaaGreatDoorPlain18
import Derived.Test.YtfkdailfcmnjlaaGreatDoorPlain19
import Derived.Test.YtfkdailfcmnjlaaGreatDoorPlain20
import Derived.Test.YtfkdailfcmnjlaaGreatDoorPlain21
import Derived.Test.YtfkdailfcmnjlaaGreatDoorPlain22
import Derived.Test.YtfkdailfcmnjlaaGreatDoorPlain23
import Derived.Test.YtfkdailfcmnjlaaGreatDoorPlain24
import Derived.Test.YtfkdailfcmnjlaaGreatDoorPlain25
import Derived.Test.YtfkdailfcmnjlaaGreatDoorPlain26
import Derived.Test.YtfkdailfcmnjlaaGreatDoorPlain27
import Derived.Test.YtfkdailfcmnjlaaGreatDoorPlain28
import Derived.Test.YtfkdailfcmnjlaaGreatDoorPlain29
import Derived.Test.YtfkdailfcmnjlaaGreatDoorLays
import Derived.Test.YtfkdailfcmnjlaaGreatDoorLays2
import Derived.WalkKit
import Derived.Deep.QuietTactic
import Derived.BigQuiet
import Derived.WalkSpells
import GoSem.Op.String
import Derived.Deep.AppendLies
import Derived.Deep.RegionHeld3
import Derived.Deep.DrawnRows
import Derived.Deep.RegionHeldLaw
import Derived.Deep.RegionLaw
import Derived.Lib.ParseIntBCases
import Derived.Deep.OwnRows
import Derived.Lib.LaidTab
import Derived.Lib.AppendIntMem
import Derived.Shelf.Strings.Builder1
import Derived.Laws.CopyOwn
import Derived.Deep.DeepCutAuto
import Derived.WalkSmall
import Derived.Lib.AppendZerosOnto
import Derived.Shelf.Abstract
set_option linter.unusedVariables false
set_option linter.unusedSimpArgs false
namespace Go.Proofs.YtfkdailfcmnjlaaGreatDoor
open Go Go.RowKit
set_option maxRecDepth 100000
attribute [local go_sem ↓] Go.wp_at_zero Go.wp_at_succ

set_option maxRecDepth 1000000 in
theorem sw_any {kd : Nat} (h9 : kd ≤ 9) {ga gb gm gk gx gy gz : Nat} {w0 : World} {a b m k x y : Mk} (c0 c1 c2 c3 c4 c5 c6 c7 c8 c9 c10 c18 c19 c20 c21 c22 c23 c24 c25 c26 c27 c28 c29 c30 c31 c32 c33 c34 c35 c36 c37 c38 c39 c40 c41 c42 c43 c44 c45 c46 c47 c48 c49 c50 c51 c52 c53 c54 c55 c56 c57 c58 c59 c60 c61 c62 c63 c64 c65 c67 c68 c69 c70 c71 c72 c73 c74 c75 c76 c77 c78 c79 c80 c81 c82 c83 c84 c85 c86 c87 c88 c89 c90 c91 c92 c93 c94 c95 c96 c97 c98 c99 c100 c101 c102 c103 c104 c105 c106 c107 c108 c109 c110 c111 c112 c113 c114 c115 c116 c117 c118 c119 c120 c121 c122 c123 c124 c125 c126 c127 c128 c129 c130 c131 c132 c133 c134 c135 c136 c137 c138 c139 c140 c141 c142 c143 c144 c145 c146 c147 c148 c149 c150 c151 c152 c153 c154 c155 c156 c157 c158 c159 c160 c161 c162 c163 c164 c165 c166 c167 c168 c169 c170 c171 c172 c173 c174 c175 c176 c177 c178 c179 c180 c181 c182 c183 c184 c185 c186 c187 c188 c189 c190 c191 c192 c193 c194 c195 c196 c197 c198 c199 c200 c201 c202 c203 c204 c205 c206 c207 c208 c209 c210 c211 c212 c213 c214 c215 c216 c217 c218 c219 c220 c221 c222 c223 c224 : Value) (HI : SwI w0 ga gb gm gk gx gy gz a b m k x y) :
    Code.wp Tryz.prog ((Tryz.f38.body.bind blkIn).getD .skip) (JN (fun a' w' => ∃ (u67 u68 u69 u70 u71 u72 u73 u74 u75 u76 u77 u78 u79 u80 u81 u82 u83 u84 u85 u86 u87 u88 u89 u90 u91 u92 u93 u94 u95 u96 u97 u98 u99 u100 u101 u102 u103 u104 u105 u106 u107 u108 u109 u110 u111 u112 u113 u114 u115 u116 u117 u118 u119 u120 u121 u122 u123 u124 u125 u126 u127 u128 u129 u130 u131 u132 u133 u134 u135 u136 u137 u138 u139 u140 u141 u142 u143 u144 u145 u146 u147 u148 u149 u150 u151 u152 u153 u154 u155 u156 u157 u158 u159 u160 u161 u162 u163 u164 u165 u166 u167 u168 u169 u170 u171 u172 u173 u174 u175 u176 u177 u178 u179 : Value), a' = ⟨#[c0, c1, c2, c3, c4, c5, c6, c7, c8, c9, c10, .pointer (some ⟨ga, 0, none⟩), .pointer (some ⟨gb, 0, none⟩), .pointer (some ⟨gm, 0, none⟩), .pointer (some ⟨gk, 0, none⟩), .pointer (some ⟨gx, 0, none⟩), .pointer (some ⟨gy, 0, none⟩), .pointer (some ⟨gz, 0, none⟩), c18, c19, c20, c21, c22, c23, c24, c25, c26, c27, c28, c29, c30, c31, c32, c33, c34, c35, c36, c37, c38, c39, c40, c41, c42, c43, c44, c45, c46, c47, c48, c49, c50, c51, c52, c53, c54, c55, c56, c57, c58, c59, c60, c61, c62, c63, c64, c65, .int .i64 kd, u67, u68, u69, u70, u71, u72, u73, u74, u75, u76, u77, u78, u79, u80, u81, u82, u83, u84, u85, u86, u87, u88, u89, u90, u91, u92, u93, u94, u95, u96, u97, u98, u99, u100, u101, u102, u103, u104, u105, u106, u107, u108, u109, u110, u111, u112, u113, u114, u115, u116, u117, u118, u119, u120, u121, u122, u123, u124, u125, u126, u127, u128, u129, u130, u131, u132, u133, u134, u135, u136, u137, u138, u139, u140, u141, u142, u143, u144, u145, u146, u147, u148, u149, u150, u151, u152, u153, u154, u155, u156, u157, u158, u159, u160, u161, u162, u163, u164, u165, u166, u167, u168, u169, u170, u171, u172, u173, u174, u175, u176, u177, u178, u179, c180, c181, c182, c183, c184, c185, c186, c187, c188, c189, c190, c191, c192, c193, c194, c195, c196, c197, c198, c199, c200, c201, c202, c203, c204, c205, c206, c207, c208, c209, c210, c211, c212, c213, c214, c215, c216, c217, c218, c219, c220, c221, c222, c223, c224], []⟩ ∧ MkAt w' gz (gM kd a b m k x y) ∧ Below gz w0 w')) ⟨#[c0, c1, c2, c3, c4, c5, c6, c7, c8, c9, c10, .pointer (some ⟨ga, 0, none⟩), .pointer (some ⟨gb, 0, none⟩), .pointer (some ⟨gm, 0, none⟩), .pointer (some ⟨gk, 0, none⟩), .pointer (some ⟨gx, 0, none⟩), .pointer (some ⟨gy, 0, none⟩), .pointer (some ⟨gz, 0, none⟩), c18, c19, c20, c21, c22, c23, c24, c25, c26, c27, c28, c29, c30, c31, c32, c33, c34, c35, c36, c37, c38, c39, c40, c41, c42, c43, c44, c45, c46, c47, c48, c49, c50, c51, c52, c53, c54, c55, c56, c57, c58, c59, c60, c61, c62, c63, c64, c65, .int .i64 kd, c67, c68, c69, c70, c71, c72, c73, c74, c75, c76, c77, c78, c79, c80, c81, c82, c83, c84, c85, c86, c87, c88, c89, c90, c91, c92, c93, c94, c95, c96, c97, c98, c99, c100, c101, c102, c103, c104, c105, c106, c107, c108, c109, c110, c111, c112, c113, c114, c115, c116, c117, c118, c119, c120, c121, c122, c123, c124, c125, c126, c127, c128, c129, c130, c131, c132, c133, c134, c135, c136, c137, c138, c139, c140, c141, c142, c143, c144, c145, c146, c147, c148, c149, c150, c151, c152, c153, c154, c155, c156, c157, c158, c159, c160, c161, c162, c163, c164, c165, c166, c167, c168, c169, c170, c171, c172, c173, c174, c175, c176, c177, c178, c179, c180, c181, c182, c183, c184, c185, c186, c187, c188, c189, c190, c191, c192, c193, c194, c195, c196, c197, c198, c199, c200, c201, c202, c203, c204, c205, c206, c207, c208, c209, c210, c211, c212, c213, c214, c215, c216, c217, c218, c219, c220, c221, c222, c223, c224], []⟩ w0 := by
  have h : kd = 0 ∨ kd = 1 ∨ kd = 2 ∨ kd = 3 ∨ kd = 4 ∨ kd = 5 ∨ kd = 6 ∨ kd = 7 ∨ kd = 8 ∨ kd = 9 := by omega
  rcases h with rfl | rfl | rfl | rfl | rfl | rfl | rfl | rfl | rfl | rfl
  · exact sw_0 c0 c1 c2 c3 c4 c5 c6 c7 c8 c9 c10 c18 c19 c20 c21 c22 c23 c24 c25 c26 c27 c28 c29 c30 c31 c32 c33 c34 c35 c36 c37 c38 c39 c40 c41 c42 c43 c44 c45 c46 c47 c48 c49 c50 c51 c52 c53 c54 c55 c56 c57 c58 c59 c60 c61 c62 c63 c64 c65 c67 c68 c69 c70 c71 c72 c73 c74 c75 c76 c77 c78 c79 c80 c81 c82 c83 c84 c85 c86 c87 c88 c89 c90 c91 c92 c93 c94 c95 c96 c97 c98 c99 c100 c101 c102 c103 c104 c105 c106 c107 c108 c109 c110 c111 c112 c113 c114 c115 c116 c117 c118 c119 c120 c121 c122 c123 c124 c125 c126 c127 c128 c129 c130 c131 c132 c133 c134 c135 c136 c137 c138 c139 c140 c141 c142 c143 c144 c145 c146 c147 c148 c149 c150 c151 c152 c153 c154 c155 c156 c157 c158 c159 c160 c161 c162 c163 c164 c165 c166 c167 c168 c169 c170 c171 c172 c173 c174 c175 c176 c177 c178 c179 c180 c181 c182 c183 c184 c185 c186 c187 c188 c189 c190 c191 c192 c193 c194 c195 c196 c197 c198 c199 c200 c201 c202 c203 c204 c205 c206 c207 c208 c209 c210 c211 c212 c213 c214 c215 c216 c217 c218 c219 c220 c221 c222 c223 c224 HI
  · exact sw_1 c0 c1 c2 c3 c4 c5 c6 c7 c8 c9 c10 c18 c19 c20 c21 c22 c23 c24 c25 c26 c27 c28 c29 c30 c31 c32 c33 c34 c35 c36 c37 c38 c39 c40 c41 c42 c43 c44 c45 c46 c47 c48 c49 c50 c51 c52 c53 c54 c55 c56 c57 c58 c59 c60 c61 c62 c63 c64 c65 c67 c68 c69 c70 c71 c72 c73 c74 c75 c76 c77 c78 c79 c80 c81 c82 c83 c84 c85 c86 c87 c88 c89 c90 c91 c92 c93 c94 c95 c96 c97 c98 c99 c100 c101 c102 c103 c104 c105 c106 c107 c108 c109 c110 c111 c112 c113 c114 c115 c116 c117 c118 c119 c120 c121 c122 c123 c124 c125 c126 c127 c128 c129 c130 c131 c132 c133 c134 c135 c136 c137 c138 c139 c140 c141 c142 c143 c144 c145 c146 c147 c148 c149 c150 c151 c152 c153 c154 c155 c156 c157 c158 c159 c160 c161 c162 c163 c164 c165 c166 c167 c168 c169 c170 c171 c172 c173 c174 c175 c176 c177 c178 c179 c180 c181 c182 c183 c184 c185 c186 c187 c188 c189 c190 c191 c192 c193 c194 c195 c196 c197 c198 c199 c200 c201 c202 c203 c204 c205 c206 c207 c208 c209 c210 c211 c212 c213 c214 c215 c216 c217 c218 c219 c220 c221 c222 c223 c224 HI
  · exact sw_2 c0 c1 c2 c3 c4 c5 c6 c7 c8 c9 c10 c18 c19 c20 c21 c22 c23 c24 c25 c26 c27 c28 c29 c30 c31 c32 c33 c34 c35 c36 c37 c38 c39 c40 c41 c42 c43 c44 c45 c46 c47 c48 c49 c50 c51 c52 c53 c54 c55 c56 c57 c58 c59 c60 c61 c62 c63 c64 c65 c67 c68 c69 c70 c71 c72 c73 c74 c75 c76 c77 c78 c79 c80 c81 c82 c83 c84 c85 c86 c87 c88 c89 c90 c91 c92 c93 c94 c95 c96 c97 c98 c99 c100 c101 c102 c103 c104 c105 c106 c107 c108 c109 c110 c111 c112 c113 c114 c115 c116 c117 c118 c119 c120 c121 c122 c123 c124 c125 c126 c127 c128 c129 c130 c131 c132 c133 c134 c135 c136 c137 c138 c139 c140 c141 c142 c143 c144 c145 c146 c147 c148 c149 c150 c151 c152 c153 c154 c155 c156 c157 c158 c159 c160 c161 c162 c163 c164 c165 c166 c167 c168 c169 c170 c171 c172 c173 c174 c175 c176 c177 c178 c179 c180 c181 c182 c183 c184 c185 c186 c187 c188 c189 c190 c191 c192 c193 c194 c195 c196 c197 c198 c199 c200 c201 c202 c203 c204 c205 c206 c207 c208 c209 c210 c211 c212 c213 c214 c215 c216 c217 c218 c219 c220 c221 c222 c223 c224 HI
  · exact sw_3 c0 c1 c2 c3 c4 c5 c6 c7 c8 c9 c10 c18 c19 c20 c21 c22 c23 c24 c25 c26 c27 c28 c29 c30 c31 c32 c33 c34 c35 c36 c37 c38 c39 c40 c41 c42 c43 c44 c45 c46 c47 c48 c49 c50 c51 c52 c53 c54 c55 c56 c57 c58 c59 c60 c61 c62 c63 c64 c65 c67 c68 c69 c70 c71 c72 c73 c74 c75 c76 c77 c78 c79 c80 c81 c82 c83 c84 c85 c86 c87 c88 c89 c90 c91 c92 c93 c94 c95 c96 c97 c98 c99 c100 c101 c102 c103 c104 c105 c106 c107 c108 c109 c110 c111 c112 c113 c114 c115 c116 c117 c118 c119 c120 c121 c122 c123 c124 c125 c126 c127 c128 c129 c130 c131 c132 c133 c134 c135 c136 c137 c138 c139 c140 c141 c142 c143 c144 c145 c146 c147 c148 c149 c150 c151 c152 c153 c154 c155 c156 c157 c158 c159 c160 c161 c162 c163 c164 c165 c166 c167 c168 c169 c170 c171 c172 c173 c174 c175 c176 c177 c178 c179 c180 c181 c182 c183 c184 c185 c186 c187 c188 c189 c190 c191 c192 c193 c194 c195 c196 c197 c198 c199 c200 c201 c202 c203 c204 c205 c206 c207 c208 c209 c210 c211 c212 c213 c214 c215 c216 c217 c218 c219 c220 c221 c222 c223 c224 HI
  · exact sw_4 c0 c1 c2 c3 c4 c5 c6 c7 c8 c9 c10 c18 c19 c20 c21 c22 c23 c24 c25 c26 c27 c28 c29 c30 c31 c32 c33 c34 c35 c36 c37 c38 c39 c40 c41 c42 c43 c44 c45 c46 c47 c48 c49 c50 c51 c52 c53 c54 c55 c56 c57 c58 c59 c60 c61 c62 c63 c64 c65 c67 c68 c69 c70 c71 c72 c73 c74 c75 c76 c77 c78 c79 c80 c81 c82 c83 c84 c85 c86 c87 c88 c89 c90 c91 c92 c93 c94 c95 c96 c97 c98 c99 c100 c101 c102 c103 c104 c105 c106 c107 c108 c109 c110 c111 c112 c113 c114 c115 c116 c117 c118 c119 c120 c121 c122 c123 c124 c125 c126 c127 c128 c129 c130 c131 c132 c133 c134 c135 c136 c137 c138 c139 c140 c141 c142 c143 c144 c145 c146 c147 c148 c149 c150 c151 c152 c153 c154 c155 c156 c157 c158 c159 c160 c161 c162 c163 c164 c165 c166 c167 c168 c169 c170 c171 c172 c173 c174 c175 c176 c177 c178 c179 c180 c181 c182 c183 c184 c185 c186 c187 c188 c189 c190 c191 c192 c193 c194 c195 c196 c197 c198 c199 c200 c201 c202 c203 c204 c205 c206 c207 c208 c209 c210 c211 c212 c213 c214 c215 c216 c217 c218 c219 c220 c221 c222 c223 c224 HI
  · exact sw_5 c0 c1 c2 c3 c4 c5 c6 c7 c8 c9 c10 c18 c19 c20 c21 c22 c23 c24 c25 c26 c27 c28 c29 c30 c31 c32 c33 c34 c35 c36 c37 c38 c39 c40 c41 c42 c43 c44 c45 c46 c47 c48 c49 c50 c51 c52 c53 c54 c55 c56 c57 c58 c59 c60 c61 c62 c63 c64 c65 c67 c68 c69 c70 c71 c72 c73 c74 c75 c76 c77 c78 c79 c80 c81 c82 c83 c84 c85 c86 c87 c88 c89 c90 c91 c92 c93 c94 c95 c96 c97 c98 c99 c100 c101 c102 c103 c104 c105 c106 c107 c108 c109 c110 c111 c112 c113 c114 c115 c116 c117 c118 c119 c120 c121 c122 c123 c124 c125 c126 c127 c128 c129 c130 c131 c132 c133 c134 c135 c136 c137 c138 c139 c140 c141 c142 c143 c144 c145 c146 c147 c148 c149 c150 c151 c152 c153 c154 c155 c156 c157 c158 c159 c160 c161 c162 c163 c164 c165 c166 c167 c168 c169 c170 c171 c172 c173 c174 c175 c176 c177 c178 c179 c180 c181 c182 c183 c184 c185 c186 c187 c188 c189 c190 c191 c192 c193 c194 c195 c196 c197 c198 c199 c200 c201 c202 c203 c204 c205 c206 c207 c208 c209 c210 c211 c212 c213 c214 c215 c216 c217 c218 c219 c220 c221 c222 c223 c224 HI
  · exact sw_6 c0 c1 c2 c3 c4 c5 c6 c7 c8 c9 c10 c18 c19 c20 c21 c22 c23 c24 c25 c26 c27 c28 c29 c30 c31 c32 c33 c34 c35 c36 c37 c38 c39 c40 c41 c42 c43 c44 c45 c46 c47 c48 c49 c50 c51 c52 c53 c54 c55 c56 c57 c58 c59 c60 c61 c62 c63 c64 c65 c67 c68 c69 c70 c71 c72 c73 c74 c75 c76 c77 c78 c79 c80 c81 c82 c83 c84 c85 c86 c87 c88 c89 c90 c91 c92 c93 c94 c95 c96 c97 c98 c99 c100 c101 c102 c103 c104 c105 c106 c107 c108 c109 c110 c111 c112 c113 c114 c115 c116 c117 c118 c119 c120 c121 c122 c123 c124 c125 c126 c127 c128 c129 c130 c131 c132 c133 c134 c135 c136 c137 c138 c139 c140 c141 c142 c143 c144 c145 c146 c147 c148 c149 c150 c151 c152 c153 c154 c155 c156 c157 c158 c159 c160 c161 c162 c163 c164 c165 c166 c167 c168 c169 c170 c171 c172 c173 c174 c175 c176 c177 c178 c179 c180 c181 c182 c183 c184 c185 c186 c187 c188 c189 c190 c191 c192 c193 c194 c195 c196 c197 c198 c199 c200 c201 c202 c203 c204 c205 c206 c207 c208 c209 c210 c211 c212 c213 c214 c215 c216 c217 c218 c219 c220 c221 c222 c223 c224 HI
  · exact sw_7 c0 c1 c2 c3 c4 c5 c6 c7 c8 c9 c10 c18 c19 c20 c21 c22 c23 c24 c25 c26 c27 c28 c29 c30 c31 c32 c33 c34 c35 c36 c37 c38 c39 c40 c41 c42 c43 c44 c45 c46 c47 c48 c49 c50 c51 c52 c53 c54 c55 c56 c57 c58 c59 c60 c61 c62 c63 c64 c65 c67 c68 c69 c70 c71 c72 c73 c74 c75 c76 c77 c78 c79 c80 c81 c82 c83 c84 c85 c86 c87 c88 c89 c90 c91 c92 c93 c94 c95 c96 c97 c98 c99 c100 c101 c102 c103 c104 c105 c106 c107 c108 c109 c110 c111 c112 c113 c114 c115 c116 c117 c118 c119 c120 c121 c122 c123 c124 c125 c126 c127 c128 c129 c130 c131 c132 c133 c134 c135 c136 c137 c138 c139 c140 c141 c142 c143 c144 c145 c146 c147 c148 c149 c150 c151 c152 c153 c154 c155 c156 c157 c158 c159 c160 c161 c162 c163 c164 c165 c166 c167 c168 c169 c170 c171 c172 c173 c174 c175 c176 c177 c178 c179 c180 c181 c182 c183 c184 c185 c186 c187 c188 c189 c190 c191 c192 c193 c194 c195 c196 c197 c198 c199 c200 c201 c202 c203 c204 c205 c206 c207 c208 c209 c210 c211 c212 c213 c214 c215 c216 c217 c218 c219 c220 c221 c222 c223 c224 HI
  · exact sw_8 c0 c1 c2 c3 c4 c5 c6 c7 c8 c9 c10 c18 c19 c20 c21 c22 c23 c24 c25 c26 c27 c28 c29 c30 c31 c32 c33 c34 c35 c36 c37 c38 c39 c40 c41 c42 c43 c44 c45 c46 c47 c48 c49 c50 c51 c52 c53 c54 c55 c56 c57 c58 c59 c60 c61 c62 c63 c64 c65 c67 c68 c69 c70 c71 c72 c73 c74 c75 c76 c77 c78 c79 c80 c81 c82 c83 c84 c85 c86 c87 c88 c89 c90 c91 c92 c93 c94 c95 c96 c97 c98 c99 c100 c101 c102 c103 c104 c105 c106 c107 c108 c109 c110 c111 c112 c113 c114 c115 c116 c117 c118 c119 c120 c121 c122 c123 c124 c125 c126 c127 c128 c129 c130 c131 c132 c133 c134 c135 c136 c137 c138 c139 c140 c141 c142 c143 c144 c145 c146 c147 c148 c149 c150 c151 c152 c153 c154 c155 c156 c157 c158 c159 c160 c161 c162 c163 c164 c165 c166 c167 c168 c169 c170 c171 c172 c173 c174 c175 c176 c177 c178 c179 c180 c181 c182 c183 c184 c185 c186 c187 c188 c189 c190 c191 c192 c193 c194 c195 c196 c197 c198 c199 c200 c201 c202 c203 c204 c205 c206 c207 c208 c209 c210 c211 c212 c213 c214 c215 c216 c217 c218 c219 c220 c221 c222 c223 c224 HI
  · exact sw_9 c0 c1 c2 c3 c4 c5 c6 c7 c8 c9 c10 c18 c19 c20 c21 c22 c23 c24 c25 c26 c27 c28 c29 c30 c31 c32 c33 c34 c35 c36 c37 c38 c39 c40 c41 c42 c43 c44 c45 c46 c47 c48 c49 c50 c51 c52 c53 c54 c55 c56 c57 c58 c59 c60 c61 c62 c63 c64 c65 c67 c68 c69 c70 c71 c72 c73 c74 c75 c76 c77 c78 c79 c80 c81 c82 c83 c84 c85 c86 c87 c88 c89 c90 c91 c92 c93 c94 c95 c96 c97 c98 c99 c100 c101 c102 c103 c104 c105 c106 c107 c108 c109 c110 c111 c112 c113 c114 c115 c116 c117 c118 c119 c120 c121 c122 c123 c124 c125 c126 c127 c128 c129 c130 c131 c132 c133 c134 c135 c136 c137 c138 c139 c140 c141 c142 c143 c144 c145 c146 c147 c148 c149 c150 c151 c152 c153 c154 c155 c156 c157 c158 c159 c160 c161 c162 c163 c164 c165 c166 c167 c168 c169 c170 c171 c172 c173 c174 c175 c176 c177 c178 c179 c180 c181 c182 c183 c184 c185 c186 c187 c188 c189 c190 c191 c192 c193 c194 c195 c196 c197 c198 c199 c200 c201 c202 c203 c204 c205 c206 c207 c208 c209 c210 c211 c212 c213 c214 c215 c216 c217 c218 c219 c220 c221 c222 c223 c224 HI
end Go.Proofs.YtfkdailfcmnjlaaGreatDoor

namespace Go.Proofs.YtfkdailfcmnjlaaGreatDoor
open Go Go.RowKit
set_option maxRecDepth 100000
attribute [local go_sem ↓] Go.wp_at_zero Go.wp_at_succ

set_option maxHeartbeats 8000000 in
set_option maxRecDepth 1000000 in
theorem take_5 {p gz : Nat} {w0 : World} {V : Value} {n : Int} {o A0 B0 : Mk} (c1 c2 c4 c5 c6 c7 c8 c10 c11 c12 c13 c14 c15 c16 c17 c18 c19 c20 c21 c22 c23 c24 c25 c26 c27 c28 c29 c30 c31 c32 c33 c34 c35 c36 c37 c38 c39 c40 c41 c42 c43 c44 c45 c46 c47 c48 c49 c50 c51 c52 c53 c54 c55 c56 c57 c58 c59 c60 c61 c62 c63 c64 c65 c66 c67 c68 c69 c70 c71 c72 c73 c74 c75 c76 c77 c78 c79 c80 c81 c82 c83 c84 c85 c86 c87 c88 c89 c90 c91 c92 c93 c94 c95 c96 c97 c98 c99 c100 c101 c102 c103 c104 c105 c106 c107 c108 c109 c110 c111 c112 c113 c114 c115 c116 c117 c118 c119 c120 c121 c122 c123 c124 c125 c126 c127 c128 c129 c130 c131 c132 c133 c134 c135 c136 c137 c138 c139 c140 c141 c142 c143 c144 c145 c146 c147 c148 c149 c150 c151 c152 c153 c154 c155 c156 c157 c158 c159 c160 c161 c162 c163 c164 c165 c166 c167 c168 c169 c170 c171 c172 c173 c174 c175 c176 c177 c178 c179 c180 c181 c182 c183 c184 c185 c186 c187 c188 c189 c190 c191 c192 c193 c194 c195 c196 c197 c198 c199 c200 c201 c202 c203 c204 c205 c206 c207 c208 c209 c210 c211 c212 c213 c214 c215 c216 c217 c218 c219 c220 c221 c222 c223 c224 : Value) (hn3 : In64 (n.tdiv 3)) (hz : MkAt w0 gz o) (ht : w0.cell? ⟨p, 1, none⟩ = some V)
    (WA : ∀ W, Below w0.heap.size w0 W → Calls Tryz.prog 72 #[V, .int .i64 n, mkV o] W fun e w' => e = .returned (mkV A0) ∧ w' = (W.alloc (mkO o)).alloc (mkO A0))
    (WB : ∀ W, Below w0.heap.size w0 W → Calls Tryz.prog 72 #[V, .int .i64 (n.tdiv 3), mkV o] W fun e w' => e = .returned (mkV B0) ∧ w' = (W.alloc (mkO o)).alloc (mkO B0)) :
    Code.wp Tryz.prog ((Tryz.f38.body.bind (regIn 5)).getD .skip) (JN (fun a' w' => ∃ (ga gb : Nat) (u36 u37 u38 u39 u40 u41 u42 u43 u44 u45 u46 u47 u48 u49 u50 : Value), a' = ⟨#[.pointer (some ⟨p, 0, none⟩), c1, c2, .int .i64 n, c4, c5, c6, c7, c8, .pointer (some ⟨gz, 0, none⟩), c10, c11, c12, .pointer (some ⟨ga, 0, none⟩), .pointer (some ⟨gb, 0, none⟩), c15, c16, c17, c18, c19, c20, c21, c22, c23, c24, c25, c26, c27, c28, c29, c30, c31, c32, c33, c34, c35, u36, u37, u38, u39, u40, u41, u42, u43, u44, u45, u46, u47, u48, u49, u50, c51, c52, c53, c54, c55, c56, c57, c58, c59, c60, c61, c62, c63, c64, c65, c66, c67, c68, c69, c70, c71, c72, c73, c74, c75, c76, c77, c78, c79, c80, c81, c82, c83, c84, c85, c86, c87, c88, c89, c90, c91, c92, c93, c94, c95, c96, c97, c98, c99, c100, c101, c102, c103, c104, c105, c106, c107, c108, c109, c110, c111, c112, c113, c114, c115, c116, c117, c118, c119, c120, c121, c122, c123, c124, c125, c126, c127, c128, c129, c130, c131, c132, c133, c134, c135, c136, c137, c138, c139, c140, c141, c142, c143, c144, c145, c146, c147, c148, c149, c150, c151, c152, c153, c154, c155, c156, c157, c158, c159, c160, c161, c162, c163, c164, c165, c166, c167, c168, c169, c170, c171, c172, c173, c174, c175, c176, c177, c178, c179, c180, c181, c182, c183, c184, c185, c186, c187, c188, c189, c190, c191, c192, c193, c194, c195, c196, c197, c198, c199, c200, c201, c202, c203, c204, c205, c206, c207, c208, c209, c210, c211, c212, c213, c214, c215, c216, c217, c218, c219, c220, c221, c222, c223, c224], []⟩ ∧ MkAt w' ga A0 ∧ MkAt w' gb B0 ∧ Below w0.heap.size w0 w')) ⟨#[.pointer (some ⟨p, 0, none⟩), c1, c2, .int .i64 n, c4, c5, c6, c7, c8, .pointer (some ⟨gz, 0, none⟩), c10, c11, c12, c13, c14, c15, c16, c17, c18, c19, c20, c21, c22, c23, c24, c25, c26, c27, c28, c29, c30, c31, c32, c33, c34, c35, c36, c37, c38, c39, c40, c41, c42, c43, c44, c45, c46, c47, c48, c49, c50, c51, c52, c53, c54, c55, c56, c57, c58, c59, c60, c61, c62, c63, c64, c65, c66, c67, c68, c69, c70, c71, c72, c73, c74, c75, c76, c77, c78, c79, c80, c81, c82, c83, c84, c85, c86, c87, c88, c89, c90, c91, c92, c93, c94, c95, c96, c97, c98, c99, c100, c101, c102, c103, c104, c105, c106, c107, c108, c109, c110, c111, c112, c113, c114, c115, c116, c117, c118, c119, c120, c121, c122, c123, c124, c125, c126, c127, c128, c129, c130, c131, c132, c133, c134, c135, c136, c137, c138, c139, c140, c141, c142, c143, c144, c145, c146, c147, c148, c149, c150, c151, c152, c153, c154, c155, c156, c157, c158, c159, c160, c161, c162, c163, c164, c165, c166, c167, c168, c169, c170, c171, c172, c173, c174, c175, c176, c177, c178, c179, c180, c181, c182, c183, c184, c185, c186, c187, c188, c189, c190, c191, c192, c193, c194, c195, c196, c197, c198, c199, c200, c201, c202, c203, c204, c205, c206, c207, c208, c209, c210, c211, c212, c213, c214, c215, c216, c217, c218, c219, c220, c221, c222, c223, c224], []⟩ w0 := by
  have hp0 : p < w0.heap.size := World.block_lt_of_cell? w0 _ ht
  have hz0 : gz < w0.heap.size := lt_of_get hz
  have hS0 : Below w0.heap.size w0 w0 := Below.refl _ _
  have E0 : ∀ W, Below w0.heap.size w0 W → W.cell? ⟨p, 1, none⟩ = some V := fun W h => by rw [h.cell (p := ⟨p, 1, none⟩) hp0]; exact ht
  have Z0 : ∀ W, Below w0.heap.size w0 W → W.cell? ⟨gz, 0, none⟩ = some (S o.text) := fun W h => by rw [h.cell (p := ⟨gz, 0, none⟩) hz0]; exact cell_of_row w0 _ 0 _ _ _ hz
  have Z1 : ∀ W, Below w0.heap.size w0 W → W.cell? ⟨gz, 1, none⟩ = some (S o.bare) := fun W h => by rw [h.cell (p := ⟨gz, 1, none⟩) hz0]; exact cell_of_row w0 _ 1 _ _ _ hz
  have Z2 : ∀ W, Below w0.heap.size w0 W → W.cell? ⟨gz, 2, none⟩ = some (.int .i64 o.told) := fun W h => by rw [h.cell (p := ⟨gz, 2, none⟩) hz0]; exact cell_of_row w0 _ 2 _ _ _ hz
  have Z3 : ∀ W, Below w0.heap.size w0 W → W.cell? ⟨gz, 3, none⟩ = some (.int .i64 (o.deep : Nat)) := fun W h => by rw [h.cell (p := ⟨gz, 3, none⟩) hz0]; exact cell_of_row w0 _ 3 _ _ _ hz
  have KD : Hid (∀ W : World, Below w0.heap.size w0 W → Below w0.heap.size w0 W.drew) := fun W h => h.drew
  have KA : Hid (∀ (W : World) (o : Obj), Below w0.heap.size w0 W → Below w0.heap.size w0 (W.alloc o)) := fun W o h => h.alloc h.size _
  have KS : Hid (∀ (W : World) (a : Addr) (u : Value), w0.heap.size ≤ a.block → Below w0.heap.size w0 W → Below w0.heap.size w0 (W.setCell a u)) := fun W a u h h' => h'.setCell h _
  have hq3 : IntKind.i64.wrap (n.tdiv 3) = n.tdiv 3 := by unfold In64 at hn3; rw [IntKind.wrap_i64]; omega
  unfold mkV at WA WB
  clear hz ht
  conv => arg 2; whnf
  go_region_held3 (fun W => Below w0.heap.size w0 W) (first | assumption | (repeat' first | exact hS0 | with_reducible assumption | with_reducible apply KD.out | with_reducible apply KA.out | (with_reducible refine KS.out _ _ _ (by simp; omega) ?_)))
    (first
      | (go_at_call 72; (first | with_reducible refine Calls.mono (WA _ (by assumption)) ?_ | with_reducible refine Calls.mono (WB _ (by assumption)) ?_); rintro e w' ⟨rfl, rfl⟩))
  all_goals
    rename_i hHeld
    exact ⟨_, _, _, _, _, _, _, _, _, _, _, _, _, _, _, _, _, rfl, mk_drew (by repeat' first | (refine mk_new ?_; simp; done) | refine mk_old ?_), mk_drew (by repeat' first | (refine mk_new ?_; simp; done) | refine mk_old ?_), hHeld⟩
end Go.Proofs.YtfkdailfcmnjlaaGreatDoor

namespace Go.Proofs.YtfkdailfcmnjlaaGreatDoor
open Go Go.RowKit
set_option maxRecDepth 100000
attribute [local go_sem ↓] Go.wp_at_zero Go.wp_at_succ

set_option maxHeartbeats 8000000 in
set_option maxRecDepth 1000000 in
theorem take_6 {p gz : Nat} {w0 : World} {V : Value} {n : Int} {o A0 B0 : Mk} (c1 c2 c4 c5 c6 c7 c8 c9 c11 c12 c13 c14 c15 c16 c17 c18 c19 c20 c21 c22 c23 c24 c25 c26 c27 c28 c29 c30 c31 c32 c33 c34 c35 c36 c37 c38 c39 c40 c41 c42 c43 c44 c45 c46 c47 c48 c49 c50 c51 c52 c53 c54 c55 c56 c57 c58 c59 c60 c61 c62 c63 c64 c65 c66 c67 c68 c69 c70 c71 c72 c73 c74 c75 c76 c77 c78 c79 c80 c81 c82 c83 c84 c85 c86 c87 c88 c89 c90 c91 c92 c93 c94 c95 c96 c97 c98 c99 c100 c101 c102 c103 c104 c105 c106 c107 c108 c109 c110 c111 c112 c113 c114 c115 c116 c117 c118 c119 c120 c121 c122 c123 c124 c125 c126 c127 c128 c129 c130 c131 c132 c133 c134 c135 c136 c137 c138 c139 c140 c141 c142 c143 c144 c145 c146 c147 c148 c149 c150 c151 c152 c153 c154 c155 c156 c157 c158 c159 c160 c161 c162 c163 c164 c165 c166 c167 c168 c169 c170 c171 c172 c173 c174 c175 c176 c177 c178 c179 c180 c181 c182 c183 c184 c185 c186 c187 c188 c189 c190 c191 c192 c193 c194 c195 c196 c197 c198 c199 c200 c201 c202 c203 c204 c205 c206 c207 c208 c209 c210 c211 c212 c213 c214 c215 c216 c217 c218 c219 c220 c221 c222 c223 c224 : Value) (hn3 : In64 (n.tdiv 3)) (hz : MkAt w0 gz o) (ht : w0.cell? ⟨p, 2, none⟩ = some V)
    (WA : ∀ W, Below w0.heap.size w0 W → Calls Tryz.prog 72 #[V, .int .i64 n, mkV o] W fun e w' => e = .returned (mkV A0) ∧ w' = (W.alloc (mkO o)).alloc (mkO A0))
    (WB : ∀ W, Below w0.heap.size w0 W → Calls Tryz.prog 72 #[V, .int .i64 (n.tdiv 3), mkV o] W fun e w' => e = .returned (mkV B0) ∧ w' = (W.alloc (mkO o)).alloc (mkO B0)) :
    Code.wp Tryz.prog ((Tryz.f38.body.bind (regIn 6)).getD .skip) (JN (fun a' w' => ∃ (ga gb : Nat) (u51 u52 u53 u54 u55 u56 u57 u58 u59 u60 u61 u62 u63 u64 u65 : Value), a' = ⟨#[.pointer (some ⟨p, 0, none⟩), c1, c2, .int .i64 n, c4, c5, c6, c7, c8, c9, .pointer (some ⟨gz, 0, none⟩), c11, c12, c13, c14, .pointer (some ⟨ga, 0, none⟩), .pointer (some ⟨gb, 0, none⟩), c17, c18, c19, c20, c21, c22, c23, c24, c25, c26, c27, c28, c29, c30, c31, c32, c33, c34, c35, c36, c37, c38, c39, c40, c41, c42, c43, c44, c45, c46, c47, c48, c49, c50, u51, u52, u53, u54, u55, u56, u57, u58, u59, u60, u61, u62, u63, u64, u65, c66, c67, c68, c69, c70, c71, c72, c73, c74, c75, c76, c77, c78, c79, c80, c81, c82, c83, c84, c85, c86, c87, c88, c89, c90, c91, c92, c93, c94, c95, c96, c97, c98, c99, c100, c101, c102, c103, c104, c105, c106, c107, c108, c109, c110, c111, c112, c113, c114, c115, c116, c117, c118, c119, c120, c121, c122, c123, c124, c125, c126, c127, c128, c129, c130, c131, c132, c133, c134, c135, c136, c137, c138, c139, c140, c141, c142, c143, c144, c145, c146, c147, c148, c149, c150, c151, c152, c153, c154, c155, c156, c157, c158, c159, c160, c161, c162, c163, c164, c165, c166, c167, c168, c169, c170, c171, c172, c173, c174, c175, c176, c177, c178, c179, c180, c181, c182, c183, c184, c185, c186, c187, c188, c189, c190, c191, c192, c193, c194, c195, c196, c197, c198, c199, c200, c201, c202, c203, c204, c205, c206, c207, c208, c209, c210, c211, c212, c213, c214, c215, c216, c217, c218, c219, c220, c221, c222, c223, c224], []⟩ ∧ MkAt w' ga A0 ∧ MkAt w' gb B0 ∧ Below w0.heap.size w0 w')) ⟨#[.pointer (some ⟨p, 0, none⟩), c1, c2, .int .i64 n, c4, c5, c6, c7, c8, c9, .pointer (some ⟨gz, 0, none⟩), c11, c12, c13, c14, c15, c16, c17, c18, c19, c20, c21, c22, c23, c24, c25, c26, c27, c28, c29, c30, c31, c32, c33, c34, c35, c36, c37, c38, c39, c40, c41, c42, c43, c44, c45, c46, c47, c48, c49, c50, c51, c52, c53, c54, c55, c56, c57, c58, c59, c60, c61, c62, c63, c64, c65, c66, c67, c68, c69, c70, c71, c72, c73, c74, c75, c76, c77, c78, c79, c80, c81, c82, c83, c84, c85, c86, c87, c88, c89, c90, c91, c92, c93, c94, c95, c96, c97, c98, c99, c100, c101, c102, c103, c104, c105, c106, c107, c108, c109, c110, c111, c112, c113, c114, c115, c116, c117, c118, c119, c120, c121, c122, c123, c124, c125, c126, c127, c128, c129, c130, c131, c132, c133, c134, c135, c136, c137, c138, c139, c140, c141, c142, c143, c144, c145, c146, c147, c148, c149, c150, c151, c152, c153, c154, c155, c156, c157, c158, c159, c160, c161, c162, c163, c164, c165, c166, c167, c168, c169, c170, c171, c172, c173, c174, c175, c176, c177, c178, c179, c180, c181, c182, c183, c184, c185, c186, c187, c188, c189, c190, c191, c192, c193, c194, c195, c196, c197, c198, c199, c200, c201, c202, c203, c204, c205, c206, c207, c208, c209, c210, c211, c212, c213, c214, c215, c216, c217, c218, c219, c220, c221, c222, c223, c224], []⟩ w0 := by
  have hp0 : p < w0.heap.size := World.block_lt_of_cell? w0 _ ht
  have hz0 : gz < w0.heap.size := lt_of_get hz
  have hS0 : Below w0.heap.size w0 w0 := Below.refl _ _
  have E0 : ∀ W, Below w0.heap.size w0 W → W.cell? ⟨p, 2, none⟩ = some V := fun W h => by rw [h.cell (p := ⟨p, 2, none⟩) hp0]; exact ht
  have Z0 : ∀ W, Below w0.heap.size w0 W → W.cell? ⟨gz, 0, none⟩ = some (S o.text) := fun W h => by rw [h.cell (p := ⟨gz, 0, none⟩) hz0]; exact cell_of_row w0 _ 0 _ _ _ hz
  have Z1 : ∀ W, Below w0.heap.size w0 W → W.cell? ⟨gz, 1, none⟩ = some (S o.bare) := fun W h => by rw [h.cell (p := ⟨gz, 1, none⟩) hz0]; exact cell_of_row w0 _ 1 _ _ _ hz
  have Z2 : ∀ W, Below w0.heap.size w0 W → W.cell? ⟨gz, 2, none⟩ = some (.int .i64 o.told) := fun W h => by rw [h.cell (p := ⟨gz, 2, none⟩) hz0]; exact cell_of_row w0 _ 2 _ _ _ hz
  have Z3 : ∀ W, Below w0.heap.size w0 W → W.cell? ⟨gz, 3, none⟩ = some (.int .i64 (o.deep : Nat)) := fun W h => by rw [h.cell (p := ⟨gz, 3, none⟩) hz0]; exact cell_of_row w0 _ 3 _ _ _ hz
  have KD : Hid (∀ W : World, Below w0.heap.size w0 W → Below w0.heap.size w0 W.drew) := fun W h => h.drew
  have KA : Hid (∀ (W : World) (o : Obj), Below w0.heap.size w0 W → Below w0.heap.size w0 (W.alloc o)) := fun W o h => h.alloc h.size _
  have KS : Hid (∀ (W : World) (a : Addr) (u : Value), w0.heap.size ≤ a.block → Below w0.heap.size w0 W → Below w0.heap.size w0 (W.setCell a u)) := fun W a u h h' => h'.setCell h _
  have hq3 : IntKind.i64.wrap (n.tdiv 3) = n.tdiv 3 := by unfold In64 at hn3; rw [IntKind.wrap_i64]; omega
  unfold mkV at WA WB
  clear hz ht
  conv => arg 2; whnf
  go_region_held3 (fun W => Below w0.heap.size w0 W) (first | assumption | (repeat' first | exact hS0 | with_reducible assumption | with_reducible apply KD.out | with_reducible apply KA.out | (with_reducible refine KS.out _ _ _ (by simp; omega) ?_)))
    (first
      | (go_at_call 72; (first | with_reducible refine Calls.mono (WA _ (by assumption)) ?_ | with_reducible refine Calls.mono (WB _ (by assumption)) ?_); rintro e w' ⟨rfl, rfl⟩))
  all_goals
    rename_i hHeld
    exact ⟨_, _, _, _, _, _, _, _, _, _, _, _, _, _, _, _, _, rfl, mk_drew (by repeat' first | (refine mk_new ?_; simp; done) | refine mk_old ?_), mk_drew (by repeat' first | (refine mk_new ?_; simp; done) | refine mk_old ?_), hHeld⟩
end Go.Proofs.YtfkdailfcmnjlaaGreatDoor

namespace Go.Proofs.YtfkdailfcmnjlaaGreatDoor
open Go Go.RowKit
set_option maxRecDepth 100000
attribute [local go_sem ↓] Go.wp_at_zero Go.wp_at_succ loadAt_sc

theorem print_len {L : List Pt} (hP : PlainOK L) {xs : List Itm} : ∀ {fr : Nat}, TreesAt L xs fr → (∀ x ∈ xs, x.name.length ≤ 1000) → (printL L xs).length ≤ 2000 * xs.length + 1100 * (L.length - fr) ∧ xs.length + fr ≤ L.length := by
  induction xs with
  | nil => intro fr h _; rw [h]; simp [printL]
  | cons x xs ih =>
    intro fr h hn
    obtain ⟨i1, i2⟩ := ih h.2.2 fun y hy => hn y (by simp [hy])
    have hT := h.1.fit
    have hl := hT.plain_len hP.short
    have hle := hT.le
    have hlt := hT.lt
    have hx := hn x (by simp)
    have hh : (headL x).length ≤ 1100 := by
      unfold headL
      split
      · split <;> decide
      · simp [wsLet, wsEq]; omega
    have hp := h.2.1
    have e : printL L (x :: xs) = itemL L x ++ printL L xs := by unfold printL; rw [List.flatMap_cons]
    rw [e, List.length_append]
    unfold itemL
    simp only [List.length_append, List.length_cons, List.length_nil]
    refine ⟨?_, by omega⟩
    have e1 : L.length - fr = (x.parts - fr) + (L.length - x.parts) := by omega
    rw [e1, Nat.mul_add, Nat.mul_add]
    omega
theorem text_len (l : List UInt8) : (textOf l).length ≤ maxLen := by
  unfold textOf
  split
  · rename_i h0
    have hk := print_known l h0
    obtain ⟨h1, h2⟩ := print_len hk.parts hk.trees hk.names
    have := hk.parts.few
    unfold maxLen
    omega
  · exact Nat.zero_le _
/-- What 'written' answers. -/
def WrittenOut (c : Scn) (w : World) (e : Ending) (w' : World) : Prop := ∃ q : List (Mk × Bool), Good3 (scF c) q ∧ q.length ≤ 3 ∧ e = .returned (.agg #[S (textW q), S (bareW q), .bool (saysW q 0).1, .int .i64 ((saysW q 0).2 : Nat), .int .i64 0]) ∧ Below w.heap.size w w'
theorem wr_len {c : Scn} {q : List (Mk × Bool)} (hq : Good3 (scF c) q) (hl : q.length ≤ 3) : (textW q).length ≤ maxLen ∧ (bareW q).length ≤ maxLen := by
  cases q with
  | nil => exact ⟨Nat.zero_le _, Nat.zero_le _⟩
  | cons r q =>
    obtain ⟨k1, k2⟩ := textR_len (fl := scF c) q (fun r hr => hq r (by simp [hr]))
    have hm := hq r (by simp)
    have ht := hm.text
    have hb := hm.bare
    have ha : (headA r.2).length ≤ 9 := by cases r.2 <;> decide
    simp at hl
    unfold maxLen
    constructor
    · simp [textW, wsLet, wFirst, wsEq]; omega
    · simp [bareW, wsLet, wFirst]; omega
set_option maxHeartbeats 4000000 in
theorem plain_law {c : Scn} {rv : Value} {l : List UInt8} {w : World} (hm : l.length ≤ maxLen) (HWr : ∀ w', Below w.heap.size w w' → Calls Tryz.prog 16 #[.agg (scC c), rv] w' (WrittenOut c w')) (hW : Wd w) (hT : Tb w) :
    Calls Tryz.prog 5 #[.agg (scC c), rv, S l] w fun e w' => e = .returned (.bool true) ∧ Below w.heap.size w w' := by
  have HP : Hid (∀ (l : List UInt8) (W : World), Below w.heap.size w W → l.length ≤ maxLen → Calls Tryz.prog 14 #[S l] W fun e w' => e = .returned (.tuple #[S (textOf l), .int .i64 (readOf l).1.1, .int .i64 (readOf l).1.2]) ∧ Below W.heap.size W w') := fun l W hb hl => print_prog l W (hW.below hb) (hT.below hb) hl
  have HC : Hid (∀ W : World, Below w.heap.size w W → Calls Tryz.prog 11 #[S l] W fun e w' => e = .returned (.tuple #[.int .i64 (readOf l).1.1, .int .i64 (readOf l).1.2]) ∧ Below W.heap.size W w') := fun W hb => check_prog l W (hW.below hb) hm
  have HL : Hid (l.length ≤ maxLen) := hm
  clear hW hT hm
  have HO : (loadSc (.pointer (some ⟨w.heap.size, 0, none⟩))).run Tryz.prog (w.alloc (.cells (scC c) 37)) = .ok (.agg (scC c)) (w.alloc (.cells (scC c) 37)) := loadSc_row _ _ _ (heap_alloc_new w _) rfl
  have hB0 : Below w.heap.size w (w.alloc (.cells (scC c) 37)) := (Below.refl _ _).alloc (Nat.le_refl _) _
  have W1 := HWr _ hB0
  have HB0 : Hid _ := hB0
  clear HWr hB0
  go_enter Tryz.func5, Tryz.ntmps5
  go_wp2_with fail
  refine W1.mono ?_
  rintro e w1 ⟨q, hq, hql, rfl, hb1⟩
  obtain ⟨o1, o2, _, o4, o5, _⟩ := written_ok hq hql
  obtain ⟨n1, n2⟩ := wr_len hq hql
  have B1 : Below w.heap.size w w1 := HB0.out.trans (hb1.mono HB0.out.size)
  have B2 : Below w.heap.size w (w1.alloc (.cells #[S (textW q), S (bareW q), .bool (saysW q 0).1, .int .i64 ((saysW q 0).2 : Nat), .int .i64 0] 42)) := B1.alloc B1.size _
  have hp1 : (w1.alloc (.cells #[S (textW q), S (bareW q), .bool (saysW q 0).1, .int .i64 ((saysW q 0).2 : Nat), .int .i64 0] 42)).cell? ⟨w1.heap.size, 0, none⟩ = some (S (textW q)) := cell_of_row _ _ 0 _ _ _ (heap_alloc_new w1 _)
  have hlt1 : w1.heap.size < (w1.alloc (.cells #[S (textW q), S (bareW q), .bool (saysW q 0).1, .int .i64 ((saysW q 0).2 : Nat), .int .i64 0] 42)).heap.size := by simp
  have P1 := HP.out (bareW q) _ B2 n2
  rw [o4, o5] at P1
  have P2 := fun W hb => HP.out (textW q) W hb n1
  rw [o1, o2] at P2
  have HB2 : Hid _ := B2
  have HP1 : Hid (∀ W, Below (w1.alloc (.cells #[S (textW q), S (bareW q), .bool (saysW q 0).1, .int .i64 ((saysW q 0).2 : Nat), .int .i64 0] 42)).heap.size (w1.alloc (.cells #[S (textW q), S (bareW q), .bool (saysW q 0).1, .int .i64 ((saysW q 0).2 : Nat), .int .i64 0] 42)) W → W.cell? ⟨w1.heap.size, 0, none⟩ = some (S (textW q)) ∧ Below w.heap.size w W) := fun W h => ⟨(h.cell (p := ⟨w1.heap.size, 0, none⟩) hlt1).trans hp1, B2.trans (h.mono B2.size)⟩
  generalize saysW q 0 = sq at *
  generalize textW q = tq at *
  generalize bareW q = bq at *
  clear W1 HO hq hql o1 o2 o4 o5 n1 n2 hb1 B1 B2 hp1 hlt1
  go_wp2_with fail
  refine P1.mono ?_
  rintro e w2 ⟨rfl, hb2⟩
  obtain ⟨t0, B3⟩ := HP1.out w2 hb2
  have P2' := P2 w2 B3
  have HB3 : Hid _ := B3
  have HQ2 : Hid _ := hb2
  clear P1 P2 hb2 B3
  go_wp2_with fail
  refine P2'.mono ?_
  rintro e w3 ⟨rfl, hb3⟩
  have B4 : Below w.heap.size w w3 := HB3.out.trans (hb3.mono HB3.out.size)
  have P3 := HP.out l w3 B4 HL.out
  have HB4 : Hid _ := B4
  have HQ3 : Hid _ := HQ2.out.trans (hb3.mono HQ2.out.size)
  clear P2' hb3 B4 HQ2
  have hpl := place_le l
  have hbd := read_bound l
  have HZ : Hid ((readOf l).1.1 = 0 → (readOf l).1.2 = 0) := read_zero l
  have HU : Hid ((readOf l).1.1 ≠ 0 → textOf l = []) := fun h => by unfold textOf; rw [if_neg h]
  have HA : Hid ((readOf l).1.1 = 0 → (textOf l).length ≤ 1000 → (readOf (textOf l)).1 = (0, 0) ∧ textOf (textOf l) = textOf l) := fun h h' => text_again l h h'
  have HTL : Hid ((textOf l).length ≤ maxLen) := text_len l
  have HPU : Hid (∀ W, Below w.heap.size w W → Calls Tryz.prog 14 #[S (textOf l)] W fun e w' => e = .returned (.tuple #[S (textOf (textOf l)), .int .i64 (readOf (textOf l)).1.1, .int .i64 (readOf (textOf l)).1.2]) ∧ Below W.heap.size W w') := fun W hb => HP.out (textOf l) W hb HTL.out
  have HCC : Hid _ := HC.out
  clear HP HC
  generalize (readOf (textOf l)).1.2 = k' at *
  generalize textOf (textOf l) = u' at *
  generalize (readOf l).1.1 = nn at *
  generalize (readOf l).1.2 = kk at *
  go_wp2_with fail
  refine P3.mono ?_
  rintro e w4 ⟨rfl, hb4⟩
  have B5 : Below w.heap.size w w4 := HB4.out.trans (hb4.mono HB4.out.size)
  have P4 := HCC.out w4 B5
  have HB5 : Hid _ := B5
  have HQ4 : Hid _ := HQ3.out.trans (hb4.mono HQ3.out.size)
  clear P3 hb4 B5 HQ3
  go_wp2_with fail
  refine P4.mono ?_
  rintro e w5 ⟨rfl, hb5⟩
  have HB6 : Hid (Below w.heap.size w w5) := HB5.out.trans (hb5.mono HB5.out.size)
  have HQ5 : Hid _ := HQ4.out.trans (hb5.mono HQ4.out.size)
  clear P4 hb5 HQ4
  obtain ⟨t5, _⟩ := HP1.out w5 HQ5.out
  have P5 := HPU.out w5 HB6.out
  clear HP1 HQ5 HPU HCC
  by_cases h0 : nn = 0
  · subst h0
    have hk0 := HZ.out rfl
    subst hk0
    have HA' : Hid _ := HA.out rfl
    clear HA HU HZ
    by_cases hlen : (textOf l).length ≤ 1000
    · obtain ⟨a1, a2⟩ := HA'.out hlen
      subst a2
      rw [a1] at P5
      simp only [] at P5
      clear a1 HA'
      generalize textOf l = u at *
      have hi : ¬ (1000 : Int) < (u.length : Int) := by omega
      have hi2 : ¬ 1000 < u.length := by omega
      go_wp2_with fail
      refine P5.mono ?_
      rintro e w6 ⟨rfl, hb6⟩
      have HB7 : Hid (Below w.heap.size w w6) := HB6.out.trans (hb6.mono HB6.out.size)
      clear P5 hb6
      go_wp2_with fail
      go_ret
      exact ⟨rfl, HB7.out⟩
    · clear HA'
      generalize (readOf (textOf l)).1.1 = n' at *
      generalize textOf l = u at *
      have hi : (1000 : Int) < (u.length : Int) := by omega
      go_wp2_with fail
      refine P5.mono ?_
      rintro e w6 ⟨rfl, hb6⟩
      have HB7 : Hid (Below w.heap.size w w6) := HB6.out.trans (hb6.mono HB6.out.size)
      clear P5 hb6
      go_wp2_with fail
      go_ret
      exact ⟨rfl, HB7.out⟩
  · have hu := HU.out h0
    rw [hu] at *
    have hi0 : ((nn : Int) == 0) = false := by simp; omega
    have hi1 : ((nn : Int) != 0) = true := by simp; omega
    have hk1 : (0 : Int) ≤ (kk : Int) := by omega
    have hk2 : (kk : Int) ≤ (l.length : Int) := by omega
    clear HA HU HZ P5
    go_wp2_with fail
    go_ret
    exact ⟨rfl, HB6.out⟩
end Go.Proofs.YtfkdailfcmnjlaaGreatDoor
