/-
  The second loop of 'written', whole. The place that is told of a text that is no policy lies in it. The law of plain forms, from what 'written' answers. What is written of raw numbers is a policy that says what was meant. The arguments of the laws, opened: structs, and lists of pairs. What the laid variables give: the spellings of words, and the library's ErrRange; a world that meets them. A scene and a row of numbers, opened; the table of tens as it is laid.
-/
import Derived.Test.YtfkdailfcmnjlaaGreatDoorPlain01
import Derived.Test.YtfkdailfcmnjlaaGreatDoorPlain02
import Derived.Test.YtfkdailfcmnjlaaGreatDoorPlain03
import Derived.Test.YtfkdailfcmnjlaaGreatDoorPlain04
import Derived.Test.YtfkdailfcmnjlaaGreatDoorPlain05
import Derived.Test.YtfkdailfcmnjlaaGreatDoorPlain06
import Derived.Test.YtfkdailfcmnjlaaGreatDoorPlain07
import Derived.Test.YtfkdailfcmnjlaaGreatDoorPlain08
import Derived.Test.YtfkdailfcmnjlaaGreatDoorPlain09
import Derived.Test.YtfkdailfcmnjlaaGreatDoorPlain10
import Derived.Test.YtfkdailfcmnjlaaGreatDoorPlain11
import Derived.Test.YtfkdailfcmnjlaaGreatDoorPlain12
import Derived.Test.YtfkdailfcmnjlaaGreatDoorPlain13
import Derived.Test.YtfkdailfcmnjlaaGreatDoorPlain14
import Derived.Test.YtfkdailfcmnjlaaGreatDoorPlain15
import Derived.Test.YtfkdailfcmnjlaaGreatDoorPlain16
import Derived.Test.YtfkdailfcmnjlaaGreatDoorPlain17
import Derived.Test.YtfkdailfcmnjlaaGreatDoorPlain18
import Derived.Test.YtfkdailfcmnjlaaGreatDoorPlain19
import Derived.Test.YtfkdailfcmnjlaaGreatDoorLays
import Derived.Test.YtfkdailfcmnjlaaGreatDoorLays2
import Derived.Test.YtfkdailfcmnjlaaGreatDoorRows
import Derived.WalkKit
import Derived.Deep.QuietTactic
import Derived.BigQuiet
import Derived.WalkSpells
import GoSem.Op.String
import Derived.Deep.AppendLies
import Derived.Deep.RegionHeld3
import Derived.Deep.DrawnRows
import Derived.Deep.RegionHeldLaw
import Derived.Deep.RegionLaw
import Derived.Lib.ParseIntBCases
import Derived.Deep.OwnRows
import Derived.Lib.LaidTab
import Derived.Lib.AppendIntMem
import Derived.Shelf.Strings.Builder1
import Derived.Laws.CopyOwn
import Derived.Deep.DeepCutAuto
import Derived.WalkSmall
import Derived.Lib.AppendZerosOnto
import Derived.Shelf.Abstract
import Derived.Deep.CutBlock
import Derived.ProofKit
import Derived.OpenShut
import Derived.Lib.SmallJoins
import Derived.Deep.SlicePairs
import Derived.LaidMore
import Derived.Stop.Joined
import Derived.Stop.LaidErr
import Derived.ChangeSlices
set_option linter.unusedVariables false
set_option linter.unusedSimpArgs false
namespace Go.Proofs.YtfkdailfcmnjlaaGreatDoor
open Go Go.RowKit
set_option maxRecDepth 100000
attribute [local go_sem ↓] Go.wp_at_zero Go.wp_at_succ

/-- The truths that were made, in memory. -/
def Truths (w : World) (p : Nat) (lt : List Mk) : Prop := ∀ i, i < lt.length → ∃ g cap, w.cell? ⟨p, 2, none⟩ = some (.slice (some ⟨g, 0, none⟩) lt.length cap) ∧ w.cell? ⟨g, i * 4, none⟩ = some (S (lt.getD i noMk).text) ∧ w.cell? ⟨g, i * 4 + 1, none⟩ = some (S (lt.getD i noMk).bare) ∧ w.cell? ⟨g, i * 4 + 2, none⟩ = some (.int .i64 (lt.getD i noMk).told) ∧ w.cell? ⟨g, i * 4 + 3, none⟩ = some (.int .i64 ((lt.getD i noMk).deep : Nat))
/-- What the second loop keeps. -/
def Loop2I (fl : List Int) (pb : Nat) (w0 wr : World) (q : List (Mk × Bool)) : Prop := Good3 fl q ∧ WrAt wr pb (textW q) (bareW q) (saysW q 0).1 (saysW q 0).2 ∧ Below pb w0 wr
set_option maxHeartbeats 8000000 in
set_option maxRecDepth 1000000 in
theorem loop_2 {fl : List Int} {p pb L : Nat} {lt : List Mk} {w0 : World} (c0 c1 c2 c3 c4 c6 c7 c11 c12 c13 c14 c15 c16 c17 c18 c19 c20 c21 c22 c23 c24 c25 c26 c27 c28 c29 c30 c31 c32 c33 c34 c35 c36 c37 c38 c39 c40 c41 c42 c43 c44 c45 c46 c47 c48 c49 c50 c51 c52 c53 c54 c55 c56 c57 c58 c59 c60 c61 c62 c63 c64 c65 c66 c67 c68 c69 c70 c71 c72 c73 c74 c75 c76 c77 c78 c79 c80 c81 c82 c83 c84 c85 c86 c87 c88 c89 c90 c91 c92 c93 c94 c95 c96 c97 c98 c99 c100 c101 c102 c103 c104 c105 c106 c107 c108 c109 c110 c111 c112 c113 c114 c115 c116 c117 c118 c119 c120 c121 c122 c123 c124 c125 c126 c127 c128 c129 c130 c131 c132 c133 c134 c135 c136 c137 c138 c139 : Value) (hlt : lt.length = L) (hL : L ≤ 1000) (hT : ∀ W, Below pb w0 W → Truths W p lt) (hg : ∀ m ∈ lt, MkOK fl 116 m) (hpb : WrAt w0 pb [] [] false 0) :
    Code.wp Tryz.prog ((Tryz.f16.body.bind (fun c => blkIn (behindN 3 c))).getD .skip) (JN (fun a' w' => ∃ (u9 u10 u11 u12 u58 u59 u60 u61 u62 u63 u64 u65 u66 u67 u68 u69 u70 u71 u72 u73 u74 u75 u76 u77 u78 u79 u80 u81 u82 u83 u84 u85 u86 u87 u88 u89 u90 u91 u92 u93 u94 u95 u96 u97 u98 u99 u100 u101 u102 u103 u104 u105 u106 u107 u108 u109 u110 u111 u112 u113 u114 u115 u116 u117 u118 u119 u120 u121 u122 u123 u124 u125 u126 u127 u128 u129 u130 u131 u132 u133 u134 u135 u136 u137 u138 : Value), a' = ⟨#[c0, c1, c2, c3, c4, .pointer (some ⟨p, 0, none⟩), c6, c7, .pointer (some ⟨pb, 0, none⟩), u9, u10, u11, u12, c13, c14, c15, c16, c17, c18, c19, c20, c21, c22, c23, c24, c25, c26, c27, c28, c29, c30, c31, c32, c33, c34, c35, c36, c37, c38, c39, c40, c41, c42, c43, c44, c45, c46, c47, c48, c49, c50, c51, c52, c53, c54, c55, c56, c57, u58, u59, u60, u61, u62, u63, u64, u65, u66, u67, u68, u69, u70, u71, u72, u73, u74, u75, u76, u77, u78, u79, u80, u81, u82, u83, u84, u85, u86, u87, u88, u89, u90, u91, u92, u93, u94, u95, u96, u97, u98, u99, u100, u101, u102, u103, u104, u105, u106, u107, u108, u109, u110, u111, u112, u113, u114, u115, u116, u117, u118, u119, u120, u121, u122, u123, u124, u125, u126, u127, u128, u129, u130, u131, u132, u133, u134, u135, u136, u137, u138, c139], []⟩ ∧ ∃ q, q.length ≤ 3 ∧ Loop2I fl pb w0 w' q)) ⟨#[c0, c1, c2, c3, c4, .pointer (some ⟨p, 0, none⟩), c6, c7, .pointer (some ⟨pb, 0, none⟩), .int .i64 0, .int .i64 ((L : Int) - 1), c11, c12, c13, c14, c15, c16, c17, c18, c19, c20, c21, c22, c23, c24, c25, c26, c27, c28, c29, c30, c31, c32, c33, c34, c35, c36, c37, c38, c39, c40, c41, c42, c43, c44, c45, c46, c47, c48, c49, c50, c51, c52, c53, c54, c55, c56, c57, c58, c59, c60, c61, c62, c63, c64, c65, c66, c67, c68, c69, c70, c71, c72, c73, c74, c75, c76, c77, c78, c79, c80, c81, c82, c83, c84, c85, c86, c87, c88, c89, c90, c91, c92, c93, c94, c95, c96, c97, c98, c99, c100, c101, c102, c103, c104, c105, c106, c107, c108, c109, c110, c111, c112, c113, c114, c115, c116, c117, c118, c119, c120, c121, c122, c123, c124, c125, c126, c127, c128, c129, c130, c131, c132, c133, c134, c135, c136, c137, c138, c139], []⟩ w0 := by
  have HT : Hid (∀ W, Below pb w0 W → Truths W p lt) := hT
  have HG : Hid (∀ i, i < L → MkOK fl 116 (lt.getD i noMk)) := fun i hi => by
    rw [List.getD_eq_getElem?_getD, List.getElem?_eq_getElem (by omega)]
    exact hg _ (List.getElem_mem _)
  have H0 : Hid (Loop2I fl pb w0 w0 []) := ⟨fun r hr => by simp at hr, hpb, Below.refl _ _⟩
  have HLT : Hid (lt.length = L) := hlt
  clear hT hg hpb hlt
  conv => arg 2; whnf
  go_wp2_with fail
  go_loopw [9, 10] (fun nv iv wr => ∃ q : List (Mk × Bool), q.length ≤ 3 ∧ q.length ≤ L ∧ nv = .int .i64 ((q.length : Nat) : Int) ∧ iv = .int .i64 ((L : Int) - 1 - ((q.length : Nat) : Int)) ∧ Hid (Loop2I fl pb w0 wr q)) (fun nv _ _ => 4 - (intOf nv).toNat)
  case atStart => exact ⟨[], by simp, by simp, rfl, by simp, H0.out⟩
  case round =>
    obtain ⟨q, hq3, hqL, rfl, rfl, HI⟩ := hrel
    generalize hqn : q.length = n at *
    have HQN : Hid (q.length = n) := hqn
    clear hqn
    by_cases h1 : n < L
    · by_cases h2 : n < 3
      · obtain ⟨i, hi⟩ : ∃ i : Nat, L - 1 - n = i := ⟨_, rfl⟩
        have hi' : (L : Int) - 1 - (n : Int) = (i : Int) := by omega
        have hiL : i < L := by omega
        rw [hi']
        have HIE : Hid ((L : Int) - 1 - (n : Int) = (i : Int)) := hi'
        have i0 : (0 : Int) ≤ (i : Int) := by omega
        have n3 : (n : Int) < 3 := by omega
        obtain ⟨hgq, hpq, hBq⟩ := HI.out
        obtain ⟨g, cap, t0, t1, t2, t3, t4⟩ := HT.out wr hBq i (by rw [HLT.out]; exact hiL)
        rw [HLT.out] at t0
        have hmk := HG.out i hiL
        clear hi hi'
        go_upto_block 3 with fail
        refine wp_block (wp_take (round_any _ _ _ _ _ _ _ _ _ _ _ _ _ _ _ _ _ _ _ _ _ _ _ _ _ _ _ _ _ _ _ _ _ _ _ _ _ _ _ _ _ _ _ _ _ _ _ _ _ _ _ _ _ _ _ _ _ _ _ _ _ _ _ _ _ _ _ _ _ _ _ _ _ _ _ _ _ _ _ _ _ _ _ _ _ _ _ _ _ _ _ _ _ _ _ _ _ _ _ _ _ _ _ _ _ _ _ _ _ _ _ _ _ _ _ _ _ _ _ _ _ _ _ _ _ _ _ _ _ _ _ _ _ _ _ _ t0 hiL hL t1 t2 t3 t4 hpq HQN.out h2 hgq hmk) ?_)
        intro a1 w1 h1'
        obtain ⟨u11, h1'⟩ := h1'
        obtain ⟨u12, h1'⟩ := h1'
        obtain ⟨u66, h1'⟩ := h1'
        obtain ⟨u67, h1'⟩ := h1'
        obtain ⟨u68, h1'⟩ := h1'
        obtain ⟨u69, h1'⟩ := h1'
        obtain ⟨u70, h1'⟩ := h1'
        obtain ⟨u71, h1'⟩ := h1'
        obtain ⟨u72, h1'⟩ := h1'
        obtain ⟨u73, h1'⟩ := h1'
        obtain ⟨u74, h1'⟩ := h1'
        obtain ⟨u75, h1'⟩ := h1'
        obtain ⟨u76, h1'⟩ := h1'
        obtain ⟨u77, h1'⟩ := h1'
        obtain ⟨u78, h1'⟩ := h1'
        obtain ⟨u79, h1'⟩ := h1'
        obtain ⟨u80, h1'⟩ := h1'
        obtain ⟨u81, h1'⟩ := h1'
        obtain ⟨u82, h1'⟩ := h1'
        obtain ⟨u83, h1'⟩ := h1'
        obtain ⟨u84, h1'⟩ := h1'
        obtain ⟨u85, h1'⟩ := h1'
        obtain ⟨u86, h1'⟩ := h1'
        obtain ⟨u87, h1'⟩ := h1'
        obtain ⟨u88, h1'⟩ := h1'
        obtain ⟨u89, h1'⟩ := h1'
        obtain ⟨u90, h1'⟩ := h1'
        obtain ⟨u91, h1'⟩ := h1'
        obtain ⟨u92, h1'⟩ := h1'
        obtain ⟨u93, h1'⟩ := h1'
        obtain ⟨u94, h1'⟩ := h1'
        obtain ⟨u95, h1'⟩ := h1'
        obtain ⟨u96, h1'⟩ := h1'
        obtain ⟨u97, h1'⟩ := h1'
        obtain ⟨u98, h1'⟩ := h1'
        obtain ⟨u99, h1'⟩ := h1'
        obtain ⟨u100, h1'⟩ := h1'
        obtain ⟨u101, h1'⟩ := h1'
        obtain ⟨u102, h1'⟩ := h1'
        obtain ⟨u103, h1'⟩ := h1'
        obtain ⟨u104, h1'⟩ := h1'
        obtain ⟨u105, h1'⟩ := h1'
        obtain ⟨u106, h1'⟩ := h1'
        obtain ⟨u107, h1'⟩ := h1'
        obtain ⟨u108, h1'⟩ := h1'
        obtain ⟨u109, h1'⟩ := h1'
        obtain ⟨u110, h1'⟩ := h1'
        obtain ⟨u111, h1'⟩ := h1'
        obtain ⟨u112, h1'⟩ := h1'
        obtain ⟨u113, h1'⟩ := h1'
        obtain ⟨u114, h1'⟩ := h1'
        obtain ⟨u115, h1'⟩ := h1'
        obtain ⟨u116, h1'⟩ := h1'
        obtain ⟨u117, h1'⟩ := h1'
        obtain ⟨u118, h1'⟩ := h1'
        obtain ⟨u119, h1'⟩ := h1'
        obtain ⟨u120, h1'⟩ := h1'
        obtain ⟨u121, h1'⟩ := h1'
        obtain ⟨u122, h1'⟩ := h1'
        obtain ⟨u123, h1'⟩ := h1'
        obtain ⟨u124, h1'⟩ := h1'
        obtain ⟨u125, h1'⟩ := h1'
        obtain ⟨u126, h1'⟩ := h1'
        obtain ⟨u127, h1'⟩ := h1'
        obtain ⟨u128, h1'⟩ := h1'
        obtain ⟨u129, h1'⟩ := h1'
        obtain ⟨u130, h1'⟩ := h1'
        obtain ⟨u131, h1'⟩ := h1'
        obtain ⟨u132, h1'⟩ := h1'
        obtain ⟨u133, h1'⟩ := h1'
        obtain ⟨u134, h1'⟩ := h1'
        obtain ⟨u135, h1'⟩ := h1'
        obtain ⟨u136, h1'⟩ := h1'
        obtain ⟨u137, h1'⟩ := h1'
        obtain ⟨u138, h1'⟩ := h1'
        obtain ⟨rfl, hp1, hB1⟩ := h1'
        simp only [Exit.inBlock, Exit.then]
        have HN : Hid (Loop2I fl pb w0 w1 (q ++ [(lt.getD i noMk, ((lt.getD i noMk).text.length + i) % 2 == 0)])) := ⟨hgq.snoc hmk, hp1, hBq.trans hB1⟩
        clear hgq hpq hBq t0 t1 t2 t3 t4 hmk hp1 hB1
        go_wp2_with fail
        go_roundw
        case rel => exact ⟨_, by simp; have := HQN.out; omega, by simp; have := HQN.out; omega, by rw [List.length_append, HQN.out]; rfl, by rw [List.length_append, HQN.out, ← HIE.out]; simp; omega, HN.out⟩
        case measure => simp [intOf]; omega
      · obtain rfl : n = 3 := by omega
        have i0 : (0 : Int) ≤ (L : Int) - 1 - 3 := by omega
        go_wp2_with fail
        first | exact ⟨_, _, _, _, _, _, _, _, _, _, _, _, _, _, _, _, _, _, _, _, _, _, _, _, _, _, _, _, _, _, _, _, _, _, _, _, _, _, _, _, _, _, _, _, _, _, _, _, _, _, _, _, _, _, _, _, _, _, _, _, _, _, _, _, _, _, _, _, _, _, _, _, _, _, _, _, _, _, _, _, _, _, _, _, _, rfl, q, by rw [HQN.out]; decide, HI.out⟩ | exact ⟨⟨_, _, _, _, _, _, _, _, _, _, _, _, _, _, _, _, _, _, _, _, _, _, _, _, _, _, _, _, _, _, _, _, _, _, _, _, _, _, _, _, _, _, _, _, _, _, _, _, _, _, _, _, _, _, _, _, _, _, _, _, _, _, _, _, _, _, _, _, _, _, _, _, _, _, _, _, _, _, _, _, _, _, _, _, _, rfl⟩, q, by rw [HQN.out]; decide, HI.out⟩
    · obtain rfl : n = L := by omega
      have i0 : ¬ (0 : Int) ≤ (n : Int) - 1 - (n : Int) := by omega
      go_wp2_with fail
      first | exact ⟨_, _, _, _, _, _, _, _, _, _, _, _, _, _, _, _, _, _, _, _, _, _, _, _, _, _, _, _, _, _, _, _, _, _, _, _, _, _, _, _, _, _, _, _, _, _, _, _, _, _, _, _, _, _, _, _, _, _, _, _, _, _, _, _, _, _, _, _, _, _, _, _, _, _, _, _, _, _, _, _, _, _, _, _, _, rfl, q, by rw [HQN.out]; exact hq3, HI.out⟩ | exact ⟨⟨_, _, _, _, _, _, _, _, _, _, _, _, _, _, _, _, _, _, _, _, _, _, _, _, _, _, _, _, _, _, _, _, _, _, _, _, _, _, _, _, _, _, _, _, _, _, _, _, _, _, _, _, _, _, _, _, _, _, _, _, _, _, _, _, _, _, _, _, _, _, _, _, _, _, _, _, _, _, _, _, _, _, _, _, _, rfl⟩, q, by rw [HQN.out]; exact hq3, HI.out⟩
end Go.Proofs.YtfkdailfcmnjlaaGreatDoor

namespace Go.Proofs.YtfkdailfcmnjlaaGreatDoor
open Go Go.RowKit
set_option maxRecDepth 100000

theorem lex_pl (l : List UInt8) (f : Nat) : ∀ (a : Nat), a ≤ l.length → (∀ t ∈ (lex f l a).1, t.pl ≤ l.length) ∧ ∀ p, (lex f l a).2 = some p → p ≤ l.length := by
  induction f with
  | zero => intro a _; exact ⟨by simp [lex], by simp [lex]⟩
  | succ f ih =>
    intro a ha
    rw [lex]
    have hs := stop_le isB l a ha
    split
    · exact ⟨by simp, by simp⟩
    · rename_i hlt
      cases hw : wordAt l (stop isB l a) with
      | none => exact ⟨by simp, by simp; omega⟩
      | some t =>
        simp only []
        have hpl : t.pl = stop isB l a := by
          rw [wordAt_drop] at hw
          cases hx : wordS (l.drop (stop isB l a)) with
          | none => rw [hx] at hw; simp at hw
          | some w => rw [hx] at hw; simp at hw; rw [← hw]
        by_cases hle : stop isB l a + t.text.length ≤ l.length
        · obtain ⟨h1, h2⟩ := ih _ hle
          refine ⟨fun q hq => ?_, h2⟩
          rcases List.mem_cons.1 hq with rfl | hq
          · omega
          · exact h1 q hq
        · -- a word that would end behind the text: nothing follows
          have hst : stop isB l (stop isB l a + t.text.length) = stop isB l a + t.text.length := stop_end _ _ _ (by omega)
          have he : lex f l (stop isB l a + t.text.length) = ([], none) ∨ lex f l (stop isB l a + t.text.length) = ([⟨101, [], l.length⟩], none) := by
            cases f with
            | zero => exact .inl rfl
            | succ f => right; rw [lex, hst, if_pos (by omega)]
          rcases he with he | he
          · rw [he]; exact ⟨by simp; omega, by simp⟩
          · rw [he]; exact ⟨by simp; omega, by simp⟩
theorem tok_pl {ts : List Tok} {N : Nat} (h : ∀ t ∈ ts, t.pl ≤ N) (i : Nat) : (tokAt ts i).pl ≤ N := by
  unfold tokAt
  rw [List.getD_eq_getElem?_getD]
  cases hx : ts[i]? with
  | none => simp [noTok]
  | some t => exact h t (List.mem_of_getElem? hx)
theorem tail_pl {F : Nat} {ts : List Tok} {i : Nat} {L : List Pt} {x : Itm} {r : ItR} (h : itemTail F ts i L x = some r) (ok : r.ok = true) : r.it.pl = x.pl ∧ r.it.named = x.named := by
  unfold itemTail at h
  split at h
  · cases h
  · split at h
    · split at h
      · simp at h; subst h; exact ⟨rfl, rfl⟩
      · simp [itFail] at h; subst h; simp at ok
    · simp [itFail] at h; subst h; simp at ok
theorem item_pl {F : Nat} {ts : List Tok} {N i : Nat} {L : List Pt} {r : ItR} (ht : ∀ t ∈ ts, t.pl ≤ N) (h : itemP F ts i L = some r) (ok : r.ok = true) : r.it.pl ≤ N ∧ r.it.named ≤ N := by
  unfold itemP at h
  split at h
  · split at h
    · split at h
      · obtain ⟨h1, h2⟩ := tail_pl h ok
        rw [h1, h2]; exact ⟨tok_pl ht _, tok_pl ht _⟩
      · simp [itFail] at h; subst h; simp at ok
    · simp [itFail] at h; subst h; simp at ok
  · split at h
    · split at h
      · obtain ⟨h1, h2⟩ := tail_pl h ok
        rw [h1, h2]; exact ⟨tok_pl ht _, Nat.zero_le _⟩
      · simp [itFail] at h; subst h; simp at ok
    · simp [itFail] at h; subst h; simp at ok
theorem parse_pl {F : Nat} {ts : List Tok} {N : Nat} (ht : ∀ t ∈ ts, t.pl ≤ N) (g : Nat) : ∀ (i : Nat) (L : List Pt) (xs : List Itm) (R : AllR), (∀ x ∈ xs, x.pl ≤ N ∧ x.named ≤ N) → parseAll F ts g i L xs = some R → R.ok = true → ∀ x ∈ R.xs, x.pl ≤ N ∧ x.named ≤ N := by
  induction g with
  | zero => intro i L xs R _ h; rw [parseAll] at h; simp at h
  | succ g ih =>
    intro i L xs R hT h ok
    by_cases hk : (tokAt ts i).k = 101
    · have := parse_end h hk; subst this; exact hT
    · rw [parseAll, if_neg hk] at h
      cases hr : itemP F ts i L with
      | none => rw [hr] at h; simp at h
      | some r =>
        rw [hr] at h
        simp only at h
        by_cases okr : r.ok = true
        · rw [if_pos okr] at h
          refine ih r.i r.L (xs ++ [r.it]) R (fun x hx => ?_) h ok
          rcases List.mem_append.1 hx with hx | hx
          · exact hT x hx
          · rw [List.mem_singleton] at hx; subst hx; exact item_pl ht hr okr
        · rw [if_neg okr] at h; simp at h; subst h; simp at ok
theorem many_pl {L : List Pt} {N : Nat} (xs : List Itm) : (∀ x ∈ xs, x.pl ≤ N) → ∀ lets i p, manyAt L xs lets i = some p → p ≤ N := by
  induction xs with
  | nil => intro _ lets i p h; simp [manyAt] at h
  | cons x xs ih =>
    intro hx lets i p h
    rw [manyAt] at h
    generalize lets + (if x.name == [] then 0 else 1) = q at h
    split at h
    · simp at h; rw [← h]; exact hx x (by simp)
    · exact ih (fun y hy => hx y (by simp [hy])) _ _ _ h
theorem types_pl {L : List Pt} {N : Nat} {ys : List Itm} (xs : List Itm) : (∀ x ∈ xs, x.pl ≤ N) → ∀ its p, typesAt ys L xs its = some p → p ≤ N := by
  induction xs with
  | nil => intro _ its p h; simp [typesAt] at h
  | cons x xs ih =>
    intro hx its p h
    rw [typesAt] at h
    split at h
    · simp at h; rw [← h]; exact hx x (by simp)
    · exact ih (fun y hy => hx y (by simp [hy])) _ _ h
theorem better_pl {N pl : Nat} {o : Option Nat} (h1 : pl ≤ N) (h2 : ∀ p, o = some p → p ≤ N) : ∀ p, better pl o = some p → p ≤ N := by
  intro p h
  cases o with
  | none => simp [better] at h; omega
  | some q =>
    have := h2 q rfl
    simp only [better] at h
    split at h <;> (simp at h; omega)
theorem wrong_pl {L : List Pt} {N : Nat} {ys : List Itm} {i : Nat} (hL : ∀ k, (L.getD k noPt).tok.pl ≤ N) (c : Nat) : ∀ k o, (∀ p, o = some p → p ≤ N) → ∀ p, wrongAt ys L i c k o = some p → p ≤ N := by
  induction c with
  | zero => intro k o h p hp; exact h p hp
  | succ c ih =>
    intro k o h p hp
    rw [wrongAt] at hp
    refine ih _ _ (fun q hq => ?_) p hp
    unfold wrongStep at hq
    split at hq
    · exact better_pl (hL k) h q hq
    · exact h q hq
theorem names_pl {L : List Pt} {N : Nat} {ys : List Itm} (hL : ∀ k, (L.getD k noPt).tok.pl ≤ N) (xs : List Itm) : (∀ x ∈ xs, x.named ≤ N) → ∀ fr i p, namesAt ys L xs fr i = some p → p ≤ N := by
  induction xs with
  | nil => intro _ fr i p h; simp [namesAt] at h
  | cons x xs ih =>
    intro hx fr i p h
    rw [namesAt] at h
    split at h
    · simp at h; rw [← h]; exact hx x (by simp)
    · cases hw : wrongAt ys L i (x.parts - fr) fr none with
      | some q =>
        rw [hw] at h; simp at h; rw [← h]
        exact wrong_pl hL _ _ _ (by simp) q hw
      | none =>
        rw [hw] at h; simp at h
        exact ih (fun y hy => hx y (by simp [hy])) _ _ _ h
/-- The place lies in the text. -/
theorem place_le (l : List UInt8) : (readOf l).1.2 ≤ l.length := by
  unfold readOf
  by_cases h1 : 1000 < l.length
  · rw [if_pos h1]; exact Nat.zero_le _
  · rw [if_neg h1]
    obtain ⟨tp, lp⟩ := lex_pl l (l.length + 1) 0 (Nat.zero_le _)
    cases hx : (lex (l.length + 1) l 0).2 with
    | some p => exact lp p hx
    | none =>
      simp only []
      have hlex : lex (l.length + 1) l 0 = ((lex (l.length + 1) l 0).1, none) := by rw [← hx]
      obtain ⟨r1, r2, r3, r4, r5⟩ := lex_ok l (by omega) (l.length + 1) 0 _ (Nat.zero_le _) (by omega) hlex
      obtain ⟨hwo, hwl⟩ := lex_words l (l.length + 1) 0 _ (Nat.zero_le _) (by omega) hlex
      generalize (lex (l.length + 1) l 0).1 = ts at *
      obtain ⟨R, hR⟩ := parse_total (F := 16 * ts.length + 8) (Nat.le_refl _) r4 (ts.length + 1) 0 [] [] (by omega)
      have e : allOf ts = R := by unfold allOf; rw [hR]; rfl
      rw [e]
      unfold verdictOf
      by_cases ok : R.ok = false
      · rw [if_pos ok]; exact tok_pl tp _
      · rw [if_neg ok]
        have ok' : R.ok = true := by simpa using ok
        have hxs := parse_pl tp _ 0 [] [] R (by simp) hR ok'
        obtain ⟨_, k4, _, _⟩ := parse_trees hwo.sorted _ 0 [] [] R rfl ⟨by simp, by simp, by simp⟩ (by simp) (by omega) hR ok'
        have hL : ∀ k, (R.L.getD k noPt).tok.pl ≤ l.length := fun k => by
          by_cases hk : k < R.L.length
          · exact tp _ (k4.2.2 k hk)
          · rw [List.getD_eq_getElem?_getD, List.getElem?_eq_none (by omega)]; simp [noPt, noTok]
        cases hm : manyAt R.L R.xs 0 0 with
        | some p => exact many_pl R.xs (fun x hx => (hxs x hx).1) _ _ p hm
        | none =>
          simp only []
          cases hn : namesAt R.xs R.L R.xs 0 0 with
          | some p => exact names_pl hL R.xs (fun x hx => (hxs x hx).2) _ _ p hn
          | none =>
            simp only []
            cases ht : typesAt R.xs R.L R.xs [] with
            | some p => exact types_pl R.xs (fun x hx => (hxs x hx).1) _ p ht
            | none => exact Nat.zero_le _
end Go.Proofs.YtfkdailfcmnjlaaGreatDoor

namespace Go.Proofs.YtfkdailfcmnjlaaGreatDoor
open Go Go.RowKit
set_option maxRecDepth 100000
attribute [local go_sem ↓] Go.wp_at_zero Go.wp_at_succ loadAt_sc

theorem print_len {L : List Pt} (hP : PlainOK L) {xs : List Itm} : ∀ {fr : Nat}, TreesAt L xs fr → (∀ x ∈ xs, x.name.length ≤ 1000) → (printL L xs).length ≤ 2000 * xs.length + 1100 * (L.length - fr) ∧ xs.length + fr ≤ L.length := by
  induction xs with
  | nil => intro fr h _; rw [h]; simp [printL]
  | cons x xs ih =>
    intro fr h hn
    obtain ⟨i1, i2⟩ := ih h.2.2 fun y hy => hn y (by simp [hy])
    have hT := h.1.fit
    have hl := hT.plain_len hP.short
    have hle := hT.le
    have hlt := hT.lt
    have hx := hn x (by simp)
    have hh : (headL x).length ≤ 1100 := by
      unfold headL
      split
      · split <;> decide
      · simp [wsLet, wsEq]; omega
    have hp := h.2.1
    have e : printL L (x :: xs) = itemL L x ++ printL L xs := by unfold printL; rw [List.flatMap_cons]
    rw [e, List.length_append]
    unfold itemL
    simp only [List.length_append, List.length_cons, List.length_nil]
    refine ⟨?_, by omega⟩
    have e1 : L.length - fr = (x.parts - fr) + (L.length - x.parts) := by omega
    rw [e1, Nat.mul_add, Nat.mul_add]
    omega
theorem text_len (l : List UInt8) : (textOf l).length ≤ maxLen := by
  unfold textOf
  split
  · rename_i h0
    have hk := print_known l h0
    obtain ⟨h1, h2⟩ := print_len hk.parts hk.trees hk.names
    have := hk.parts.few
    unfold maxLen
    omega
  · exact Nat.zero_le _
/-- What 'written' answers. -/
def WrittenOut (c : Scn) (w : World) (e : Ending) (w' : World) : Prop := ∃ q : List (Mk × Bool), Good3 (scF c) q ∧ q.length ≤ 3 ∧ e = .returned (.agg #[S (textW q), S (bareW q), .bool (saysW q 0).1, .int .i64 ((saysW q 0).2 : Nat), .int .i64 0]) ∧ Below w.heap.size w w'
theorem wr_len {c : Scn} {q : List (Mk × Bool)} (hq : Good3 (scF c) q) (hl : q.length ≤ 3) : (textW q).length ≤ maxLen ∧ (bareW q).length ≤ maxLen := by
  cases q with
  | nil => exact ⟨Nat.zero_le _, Nat.zero_le _⟩
  | cons r q =>
    obtain ⟨k1, k2⟩ := textR_len (fl := scF c) q (fun r hr => hq r (by simp [hr]))
    have hm := hq r (by simp)
    have ht := hm.text
    have hb := hm.bare
    have ha : (headA r.2).length ≤ 9 := by cases r.2 <;> decide
    simp at hl
    unfold maxLen
    constructor
    · simp [textW, wsLet, wFirst, wsEq]; omega
    · simp [bareW, wsLet, wFirst]; omega
set_option maxHeartbeats 4000000 in
theorem plain_law {c : Scn} {rv : Value} {l : List UInt8} {w : World} (hm : l.length ≤ maxLen) (HWr : ∀ w', Below w.heap.size w w' → Calls Tryz.prog 16 #[.agg (scC c), rv] w' (WrittenOut c w')) (hW : Wd w) (hT : Tb w) :
    Calls Tryz.prog 5 #[.agg (scC c), rv, S l] w fun e w' => e = .returned (.bool true) ∧ Below w.heap.size w w' := by
  have HP : Hid (∀ (l : List UInt8) (W : World), Below w.heap.size w W → l.length ≤ maxLen → Calls Tryz.prog 14 #[S l] W fun e w' => e = .returned (.tuple #[S (textOf l), .int .i64 (readOf l).1.1, .int .i64 (readOf l).1.2]) ∧ Below W.heap.size W w') := fun l W hb hl => print_prog l W (hW.below hb) (hT.below hb) hl
  have HC : Hid (∀ W : World, Below w.heap.size w W → Calls Tryz.prog 11 #[S l] W fun e w' => e = .returned (.tuple #[.int .i64 (readOf l).1.1, .int .i64 (readOf l).1.2]) ∧ Below W.heap.size W w') := fun W hb => check_prog l W (hW.below hb) hm
  have HL : Hid (l.length ≤ maxLen) := hm
  clear hW hT hm
  have HO : (loadSc (.pointer (some ⟨w.heap.size, 0, none⟩))).run Tryz.prog (w.alloc (.cells (scC c) 37)) = .ok (.agg (scC c)) (w.alloc (.cells (scC c) 37)) := loadSc_row _ _ _ (heap_alloc_new w _) rfl
  have hB0 : Below w.heap.size w (w.alloc (.cells (scC c) 37)) := (Below.refl _ _).alloc (Nat.le_refl _) _
  have W1 := HWr _ hB0
  have HB0 : Hid _ := hB0
  clear HWr hB0
  go_enter Tryz.func5, Tryz.ntmps5
  go_wp2_with fail
  refine W1.mono ?_
  rintro e w1 ⟨q, hq, hql, rfl, hb1⟩
  obtain ⟨o1, o2, _, o4, o5, _⟩ := written_ok hq hql
  obtain ⟨n1, n2⟩ := wr_len hq hql
  have B1 : Below w.heap.size w w1 := HB0.out.trans (hb1.mono HB0.out.size)
  have B2 : Below w.heap.size w (w1.alloc (.cells #[S (textW q), S (bareW q), .bool (saysW q 0).1, .int .i64 ((saysW q 0).2 : Nat), .int .i64 0] 42)) := B1.alloc B1.size _
  have hp1 : (w1.alloc (.cells #[S (textW q), S (bareW q), .bool (saysW q 0).1, .int .i64 ((saysW q 0).2 : Nat), .int .i64 0] 42)).cell? ⟨w1.heap.size, 0, none⟩ = some (S (textW q)) := cell_of_row _ _ 0 _ _ _ (heap_alloc_new w1 _)
  have hlt1 : w1.heap.size < (w1.alloc (.cells #[S (textW q), S (bareW q), .bool (saysW q 0).1, .int .i64 ((saysW q 0).2 : Nat), .int .i64 0] 42)).heap.size := by simp
  have P1 := HP.out (bareW q) _ B2 n2
  rw [o4, o5] at P1
  have P2 := fun W hb => HP.out (textW q) W hb n1
  rw [o1, o2] at P2
  have HB2 : Hid _ := B2
  have HP1 : Hid (∀ W, Below (w1.alloc (.cells #[S (textW q), S (bareW q), .bool (saysW q 0).1, .int .i64 ((saysW q 0).2 : Nat), .int .i64 0] 42)).heap.size (w1.alloc (.cells #[S (textW q), S (bareW q), .bool (saysW q 0).1, .int .i64 ((saysW q 0).2 : Nat), .int .i64 0] 42)) W → W.cell? ⟨w1.heap.size, 0, none⟩ = some (S (textW q)) ∧ Below w.heap.size w W) := fun W h => ⟨(h.cell (p := ⟨w1.heap.size, 0, none⟩) hlt1).trans hp1, B2.trans (h.mono B2.size)⟩
  generalize saysW q 0 = sq at *
  generalize textW q = tq at *
  generalize bareW q = bq at *
  clear W1 HO hq hql o1 o2 o4 o5 n1 n2 hb1 B1 B2 hp1 hlt1
  go_wp2_with fail
  refine P1.mono ?_
  rintro e w2 ⟨rfl, hb2⟩
  obtain ⟨t0, B3⟩ := HP1.out w2 hb2
  have P2' := P2 w2 B3
  have HB3 : Hid _ := B3
  have HQ2 : Hid _ := hb2
  clear P1 P2 hb2 B3
  go_wp2_with fail
  refine P2'.mono ?_
  rintro e w3 ⟨rfl, hb3⟩
  have B4 : Below w.heap.size w w3 := HB3.out.trans (hb3.mono HB3.out.size)
  have P3 := HP.out l w3 B4 HL.out
  have HB4 : Hid _ := B4
  have HQ3 : Hid _ := HQ2.out.trans (hb3.mono HQ2.out.size)
  clear P2' hb3 B4 HQ2
  have hpl := place_le l
  have hbd := read_bound l
  have HZ : Hid ((readOf l).1.1 = 0 → (readOf l).1.2 = 0) := read_zero l
  have HU : Hid ((readOf l).1.1 ≠ 0 → textOf l = []) := fun h => by unfold textOf; rw [if_neg h]
  have HA : Hid ((readOf l).1.1 = 0 → (textOf l).length ≤ 1000 → (readOf (textOf l)).1 = (0, 0) ∧ textOf (textOf l) = textOf l) := fun h h' => text_again l h h'
  have HTL : Hid ((textOf l).length ≤ maxLen) := text_len l
  have HPU : Hid (∀ W, Below w.heap.size w W → Calls Tryz.prog 14 #[S (textOf l)] W fun e w' => e = .returned (.tuple #[S (textOf (textOf l)), .int .i64 (readOf (textOf l)).1.1, .int .i64 (readOf (textOf l)).1.2]) ∧ Below W.heap.size W w') := fun W hb => HP.out (textOf l) W hb HTL.out
  have HCC : Hid _ := HC.out
  clear HP HC
  generalize (readOf (textOf l)).1.2 = k' at *
  generalize textOf (textOf l) = u' at *
  generalize (readOf l).1.1 = nn at *
  generalize (readOf l).1.2 = kk at *
  go_wp2_with fail
  refine P3.mono ?_
  rintro e w4 ⟨rfl, hb4⟩
  have B5 : Below w.heap.size w w4 := HB4.out.trans (hb4.mono HB4.out.size)
  have P4 := HCC.out w4 B5
  have HB5 : Hid _ := B5
  have HQ4 : Hid _ := HQ3.out.trans (hb4.mono HQ3.out.size)
  clear P3 hb4 B5 HQ3
  go_wp2_with fail
  refine P4.mono ?_
  rintro e w5 ⟨rfl, hb5⟩
  have HB6 : Hid (Below w.heap.size w w5) := HB5.out.trans (hb5.mono HB5.out.size)
  have HQ5 : Hid _ := HQ4.out.trans (hb5.mono HQ4.out.size)
  clear P4 hb5 HQ4
  obtain ⟨t5, _⟩ := HP1.out w5 HQ5.out
  have P5 := HPU.out w5 HB6.out
  clear HP1 HQ5 HPU HCC
  by_cases h0 : nn = 0
  · subst h0
    have hk0 := HZ.out rfl
    subst hk0
    have HA' : Hid _ := HA.out rfl
    clear HA HU HZ
    by_cases hlen : (textOf l).length ≤ 1000
    · obtain ⟨a1, a2⟩ := HA'.out hlen
      subst a2
      rw [a1] at P5
      simp only [] at P5
      clear a1 HA'
      generalize textOf l = u at *
      have hi : ¬ (1000 : Int) < (u.length : Int) := by omega
      have hi2 : ¬ 1000 < u.length := by omega
      go_wp2_with fail
      refine P5.mono ?_
      rintro e w6 ⟨rfl, hb6⟩
      have HB7 : Hid (Below w.heap.size w w6) := HB6.out.trans (hb6.mono HB6.out.size)
      clear P5 hb6
      go_wp2_with fail
      go_ret
      exact ⟨rfl, HB7.out⟩
    · clear HA'
      generalize (readOf (textOf l)).1.1 = n' at *
      generalize textOf l = u at *
      have hi : (1000 : Int) < (u.length : Int) := by omega
      go_wp2_with fail
      refine P5.mono ?_
      rintro e w6 ⟨rfl, hb6⟩
      have HB7 : Hid (Below w.heap.size w w6) := HB6.out.trans (hb6.mono HB6.out.size)
      clear P5 hb6
      go_wp2_with fail
      go_ret
      exact ⟨rfl, HB7.out⟩
  · have hu := HU.out h0
    rw [hu] at *
    have hi0 : ((nn : Int) == 0) = false := by simp; omega
    have hi1 : ((nn : Int) != 0) = true := by simp; omega
    have hk1 : (0 : Int) ≤ (kk : Int) := by omega
    have hk2 : (kk : Int) ≤ (l.length : Int) := by omega
    clear HA HU HZ P5
    go_wp2_with fail
    go_ret
    exact ⟨rfl, HB6.out⟩
end Go.Proofs.YtfkdailfcmnjlaaGreatDoor

namespace Go.Proofs.YtfkdailfcmnjlaaGreatDoor
open Go Go.RowKit
set_option maxRecDepth 100000
attribute [local go_sem ↓] Go.wp_at_zero Go.wp_at_succ loadAt_sc

theorem MR.truths {b : Nat} {w : World} {p : Nat} {v : Nat → Value} {l : Nat → List Mk} (h : TI b w p v l) : Truths w p (l 2) := fun i hi => by
  have hr := h.row 2 (by decide)
  have hp : 0 < (l 2).length := by omega
  obtain ⟨g, cap, hv, _, _⟩ := World.ownsRow.form hr hp
  have hr' : MR b w (.slice (some ⟨g, 0, none⟩) (l 2).length cap) (l 2) := by rw [← hv]; exact hr
  obtain ⟨c0, c1, c2, c3⟩ := MR.cells hr' hi
  exact ⟨g, cap, by rw [← hv]; exact h.cell.2.2.1, c0, c1, c2, c3⟩
set_option maxHeartbeats 8000000 in
set_option maxRecDepth 1000000 in
theorem written_any {c : Scn} (hc : ScnIn c) {rv : Value} {zs : List Int} {w : World} (hz : IntsAt rv zs w) (hin : ∀ z ∈ zs, In64 z) :
    Calls Tryz.prog 16 #[.agg (scC c), rv] w (WrittenOut c w) := by
  obtain ⟨hzl, a, cap, rfl, hza⟩ := hz
  obtain ⟨w0, hw0⟩ : ∃ w0, ((w.alloc (.cells (scC c) 37)).alloc (.cells #[.string ⟨#[]⟩, .string ⟨#[]⟩, .bool false, .int .i64 0, .int .i64 0] 42)).alloc (.cells #[.slice none 0 0, .slice none 0 0, .slice none 0 0] 100) = w0 := ⟨_, rfl⟩
  have hs0 : w0.heap.size = w.heap.size + 3 := by rw [← hw0]; simp
  have hc0 : w0.heap[w.heap.size]? = some (.cells (scC c) 37 (0, 0)) := by
    rw [← hw0]
    exact (Below.heap_alloc _ _ _ (by simp; omega)).trans ((Below.heap_alloc _ _ _ (by simp)).trans (heap_alloc_new w _))
  have hr0 : WrAt w0 (w.heap.size + 1) [] [] false 0 := by
    rw [← hw0]
    have h := heap_alloc_new (w.alloc (.cells (scC c) 37)) (.cells #[.string ⟨#[]⟩, .string ⟨#[]⟩, .bool false, .int .i64 0, .int .i64 0] 42)
    rw [World.size_alloc] at h
    exact (Below.heap_alloc _ _ _ (by simp)).trans h
  have ht0 : w0.heap[w.heap.size + 1 + 1]? = some (.cells #[.slice none 0 0, .slice none 0 0, .slice none 0 0] 100 (0, 0)) := by
    rw [← hw0]
    have h := heap_alloc_new ((w.alloc (.cells (scC c) 37)).alloc (.cells #[.string ⟨#[]⟩, .string ⟨#[]⟩, .bool false, .int .i64 0, .int .i64 0] 42)) (.cells #[.slice none 0 0, .slice none 0 0, .slice none 0 0] 100)
    rw [World.size_alloc, World.size_alloc] at h
    exact h
  have hB0 : Below w.heap.size w w0 := by
    rw [← hw0]
    exact (((Below.refl _ w).alloc (Nat.le_refl _) _).alloc (by simp) _).alloc (by simp; omega) _
  have hI0 : LoopI c (w.heap.size + 1 + 1) (w.heap.size + 1 + 1) w0 w0 0 := ⟨fun _ => .slice none 0 0, fun _ => [], ⟨ht0, fun j hj => World.ownsRow_nil _ _ _ _, fun i j _ _ _ g hg => by simp [Value.ownBlock] at hg, Nat.le_refl _⟩, fun j hj m hm => by simp at hm, fun j hj => by simp, Below.refl _ _⟩
  have hza0 : ∀ i, i < zs.length → ∃ rb ro, a = some ⟨rb, ro, none⟩ ∧ rb < w.heap.size + 1 + 1 ∧ w0.cell? ⟨rb, ro + i, none⟩ = some (.int .i64 (zs.getD i 0)) := fun i hi => by
    obtain ⟨rb, ro, e, h⟩ := hza i hi
    have hlt : rb < w.heap.size := World.block_lt_of_cell? w _ h
    exact ⟨rb, ro, e, by omega, by rw [hB0.cell (p := ⟨rb, ro + i, none⟩) hlt]; exact h⟩
  have HW : Hid _ := hw0
  have HZA : Hid _ := hza0
  clear hw0 hza hza0
  unfold scC at HW ⊢
  go_enter Tryz.func16, Tryz.ntmps16
  go_upto_block 0 with fail
  rw [HW.out]
  refine wp_take (loop_1 hc (zs := zs) _ _ _ _ _ _ _ _ _ _ _ _ _ _ _ _ _ _ _ _ _ _ _ _ _ _ _ _ _ _ _ _ _ _ _ _ _ _ _ _ _ _ _ _ _ _ _ _ _ _ _ _ _ _ _ _ _ _ _ _ _ _ _ _ _ _ _ _ _ _ _ _ _ _ _ _ _ _ _ _ _ _ _ _ _ _ _ _ _ _ _ _ _ _ _ _ _ _ _ _ _ _ _ _ _ _ _ _ _ _ _ _ _ _ _ _ _ _ _ _ _ _ _ _ _ _ _ _ _ _ _ _ _ _ _ _ rfl hzl HZA.out hin hc0 (by omega) (by omega) hI0) ?_
  intro a1 w1 h1
  obtain ⟨u6, h1⟩ := h1
  obtain ⟨u7, h1⟩ := h1
  obtain ⟨u15, h1⟩ := h1
  obtain ⟨u16, h1⟩ := h1
  obtain ⟨u17, h1⟩ := h1
  obtain ⟨u18, h1⟩ := h1
  obtain ⟨u19, h1⟩ := h1
  obtain ⟨u20, h1⟩ := h1
  obtain ⟨u21, h1⟩ := h1
  obtain ⟨u22, h1⟩ := h1
  obtain ⟨u23, h1⟩ := h1
  obtain ⟨u24, h1⟩ := h1
  obtain ⟨u25, h1⟩ := h1
  obtain ⟨u26, h1⟩ := h1
  obtain ⟨u27, h1⟩ := h1
  obtain ⟨u28, h1⟩ := h1
  obtain ⟨u29, h1⟩ := h1
  obtain ⟨u30, h1⟩ := h1
  obtain ⟨u31, h1⟩ := h1
  obtain ⟨u32, h1⟩ := h1
  obtain ⟨u33, h1⟩ := h1
  obtain ⟨u34, h1⟩ := h1
  obtain ⟨u35, h1⟩ := h1
  obtain ⟨u36, h1⟩ := h1
  obtain ⟨u37, h1⟩ := h1
  obtain ⟨u38, h1⟩ := h1
  obtain ⟨u39, h1⟩ := h1
  obtain ⟨u40, h1⟩ := h1
  obtain ⟨u41, h1⟩ := h1
  obtain ⟨u42, h1⟩ := h1
  obtain ⟨u43, h1⟩ := h1
  obtain ⟨u44, h1⟩ := h1
  obtain ⟨u45, h1⟩ := h1
  obtain ⟨u46, h1⟩ := h1
  obtain ⟨u47, h1⟩ := h1
  obtain ⟨u48, h1⟩ := h1
  obtain ⟨u49, h1⟩ := h1
  obtain ⟨u50, h1⟩ := h1
  obtain ⟨u51, h1⟩ := h1
  obtain ⟨rfl, v, l, hT, hg, hl, hB1⟩ := h1
  simp only [Exit.then]
  obtain ⟨va, vc, hv2⟩ := row_sl (hT.row 2 (by decide))
  have t2 : w1.cell? ⟨w.heap.size + 1 + 1, 2, none⟩ = some (.slice va (l 2).length vc) := by rw [hT.cell.2.2.1, hv2]
  have hs1 : w.heap.size + 3 ≤ w1.heap.size := by have := hB1.size; omega
  have p1 : w.heap.size + 1 + 1 < w1.heap.size := by omega
  have p2 : w.heap.size + 1 + 1 ≠ w1.heap.size := by omega
  have p3 : w1.heap.size ≠ w.heap.size + 1 + 1 := by omega
  have hl2 := hl 2 (by decide)
  have HT : Hid (TI (w.heap.size + 1 + 1) w1 (w.heap.size + 1 + 1) v l) := hT
  have HG : Hid _ := hg
  have HR0 : Hid _ := hr0
  have HB1 : Hid _ := hB1
  have HB0 : Hid _ := hB0
  clear hT hg hr0 hc0 ht0 hI0 hB1 hB0 HZA HW hl hv2 hin
  go_upto_block 2 with fail
  go_name_world w2 hw2
  have hpb : WrAt w2 w1.heap.size [] [] false 0 := by rw [← hw2]; exact heap_alloc_new w1 _
  have hB2 : Below w1.heap.size w1 w2 := by rw [← hw2]; exact (Below.refl _ _).alloc (Nat.le_refl _) _
  clear hw2 t2
  refine wp_take (loop_2 (fl := scF c) (lt := l 2) _ _ _ _ _ _ _ _ _ _ _ _ _ _ _ _ _ _ _ _ _ _ _ _ _ _ _ _ _ _ _ _ _ _ _ _ _ _ _ _ _ _ _ _ _ _ _ _ _ _ _ _ _ _ _ _ _ _ _ _ _ _ _ _ _ _ _ _ _ _ _ _ _ _ _ _ _ _ _ _ _ _ _ _ _ _ _ _ _ _ _ _ _ _ _ _ _ _ _ _ _ _ _ _ _ _ _ _ _ _ _ _ _ _ _ _ _ _ _ _ _ _ _ _ _ _ _ _ _ _ _ _ _ _ _ _ rfl (by omega) (fun W h => MR.truths (HT.out.below (hB2.trans h))) (HG.out 2 (by decide)) hpb) ?_
  intro a2 w3 h3
  obtain ⟨u9, h3⟩ := h3
  obtain ⟨u10, h3⟩ := h3
  obtain ⟨u11, h3⟩ := h3
  obtain ⟨u12, h3⟩ := h3
  obtain ⟨u58, h3⟩ := h3
  obtain ⟨u59, h3⟩ := h3
  obtain ⟨u60, h3⟩ := h3
  obtain ⟨u61, h3⟩ := h3
  obtain ⟨u62, h3⟩ := h3
  obtain ⟨u63, h3⟩ := h3
  obtain ⟨u64, h3⟩ := h3
  obtain ⟨u65, h3⟩ := h3
  obtain ⟨u66, h3⟩ := h3
  obtain ⟨u67, h3⟩ := h3
  obtain ⟨u68, h3⟩ := h3
  obtain ⟨u69, h3⟩ := h3
  obtain ⟨u70, h3⟩ := h3
  obtain ⟨u71, h3⟩ := h3
  obtain ⟨u72, h3⟩ := h3
  obtain ⟨u73, h3⟩ := h3
  obtain ⟨u74, h3⟩ := h3
  obtain ⟨u75, h3⟩ := h3
  obtain ⟨u76, h3⟩ := h3
  obtain ⟨u77, h3⟩ := h3
  obtain ⟨u78, h3⟩ := h3
  obtain ⟨u79, h3⟩ := h3
  obtain ⟨u80, h3⟩ := h3
  obtain ⟨u81, h3⟩ := h3
  obtain ⟨u82, h3⟩ := h3
  obtain ⟨u83, h3⟩ := h3
  obtain ⟨u84, h3⟩ := h3
  obtain ⟨u85, h3⟩ := h3
  obtain ⟨u86, h3⟩ := h3
  obtain ⟨u87, h3⟩ := h3
  obtain ⟨u88, h3⟩ := h3
  obtain ⟨u89, h3⟩ := h3
  obtain ⟨u90, h3⟩ := h3
  obtain ⟨u91, h3⟩ := h3
  obtain ⟨u92, h3⟩ := h3
  obtain ⟨u93, h3⟩ := h3
  obtain ⟨u94, h3⟩ := h3
  obtain ⟨u95, h3⟩ := h3
  obtain ⟨u96, h3⟩ := h3
  obtain ⟨u97, h3⟩ := h3
  obtain ⟨u98, h3⟩ := h3
  obtain ⟨u99, h3⟩ := h3
  obtain ⟨u100, h3⟩ := h3
  obtain ⟨u101, h3⟩ := h3
  obtain ⟨u102, h3⟩ := h3
  obtain ⟨u103, h3⟩ := h3
  obtain ⟨u104, h3⟩ := h3
  obtain ⟨u105, h3⟩ := h3
  obtain ⟨u106, h3⟩ := h3
  obtain ⟨u107, h3⟩ := h3
  obtain ⟨u108, h3⟩ := h3
  obtain ⟨u109, h3⟩ := h3
  obtain ⟨u110, h3⟩ := h3
  obtain ⟨u111, h3⟩ := h3
  obtain ⟨u112, h3⟩ := h3
  obtain ⟨u113, h3⟩ := h3
  obtain ⟨u114, h3⟩ := h3
  obtain ⟨u115, h3⟩ := h3
  obtain ⟨u116, h3⟩ := h3
  obtain ⟨u117, h3⟩ := h3
  obtain ⟨u118, h3⟩ := h3
  obtain ⟨u119, h3⟩ := h3
  obtain ⟨u120, h3⟩ := h3
  obtain ⟨u121, h3⟩ := h3
  obtain ⟨u122, h3⟩ := h3
  obtain ⟨u123, h3⟩ := h3
  obtain ⟨u124, h3⟩ := h3
  obtain ⟨u125, h3⟩ := h3
  obtain ⟨u126, h3⟩ := h3
  obtain ⟨u127, h3⟩ := h3
  obtain ⟨u128, h3⟩ := h3
  obtain ⟨u129, h3⟩ := h3
  obtain ⟨u130, h3⟩ := h3
  obtain ⟨u131, h3⟩ := h3
  obtain ⟨u132, h3⟩ := h3
  obtain ⟨u133, h3⟩ := h3
  obtain ⟨u134, h3⟩ := h3
  obtain ⟨u135, h3⟩ := h3
  obtain ⟨u136, h3⟩ := h3
  obtain ⟨u137, h3⟩ := h3
  obtain ⟨u138, h3⟩ := h3
  obtain ⟨rfl, q, hq3, hgq, hpq, hB3⟩ := h3
  simp only [Exit.then]
  have hR : WrAt w3 (w.heap.size + 1) [] [] false 0 := (hB3.block _ (by omega)).trans ((hB2.block _ (by omega)).trans ((HB1.out.block _ (by omega)).trans HR0.out))
  have y0 : w3.cell? ⟨w1.heap.size, 0, none⟩ = some (S (textW q)) := cell_of_row w3 _ 0 _ _ _ hpq
  have y1 : w3.cell? ⟨w1.heap.size, 1, none⟩ = some (S (bareW q)) := cell_of_row w3 _ 1 _ _ _ hpq
  have y2 : w3.cell? ⟨w1.heap.size, 2, none⟩ = some (.bool (saysW q 0).1) := cell_of_row w3 _ 2 _ _ _ hpq
  have y3 : w3.cell? ⟨w1.heap.size, 3, none⟩ = some (.int .i64 ((saysW q 0).2 : Nat)) := cell_of_row w3 _ 3 _ _ _ hpq
  have y4 : w3.cell? ⟨w1.heap.size, 4, none⟩ = some (.int .i64 0) := cell_of_row w3 _ 4 _ _ _ hpq
  have x0 : w3.cell? ⟨w.heap.size + 1, 0, none⟩ = some (S []) := cell_of_row w3 _ 0 _ _ _ hR
  have x1 : w3.cell? ⟨w.heap.size + 1, 1, none⟩ = some (S []) := cell_of_row w3 _ 1 _ _ _ hR
  have x2 : w3.cell? ⟨w.heap.size + 1, 2, none⟩ = some (.bool false) := cell_of_row w3 _ 2 _ _ _ hR
  have x3 : w3.cell? ⟨w.heap.size + 1, 3, none⟩ = some (.int .i64 0) := cell_of_row w3 _ 3 _ _ _ hR
  have x4 : w3.cell? ⟨w.heap.size + 1, 4, none⟩ = some (.int .i64 0) := cell_of_row w3 _ 4 _ _ _ hR
  have f0 : ∀ j, w3.frozen? ⟨w.heap.size + 1, j, none⟩ = false := fun j => by unfold WrAt at hR; simp [World.frozen?, hR]
  have HOUT : Hid (∀ w', Below w.heap.size w w' → WrittenOut c w (.returned (.agg #[S (textW q), S (bareW q), .bool (saysW q 0).1, .int .i64 ((saysW q 0).2 : Nat), .int .i64 0])) w') := fun w' h => ⟨q, hgq, hq3, rfl, h⟩
  have hsz3 : w1.heap.size ≤ w3.heap.size := by have := hB2.size; have := hB3.size; omega
  have HB : Hid (Below w.heap.size w w3) := HB0.out.trans ((HB1.out.mono (by omega)).trans ((hB2.mono (by omega)).trans (hB3.mono (by omega))))
  clear hR hpq hgq hq3 hB3 hB2 hpb HR0 HB1 HB0
  generalize textW q = tq at *
  generalize bareW q = bq at *
  generalize (saysW q 0).1 = s1 at *
  generalize (saysW q 0).2 = s2 at *
  have n1 : w.heap.size + 1 ≠ w1.heap.size := by omega
  have n2 : w1.heap.size ≠ w.heap.size + 1 := by omega
  have g0 := f0 0
  have g1 := f0 1
  have g2 := f0 2
  have g3 := f0 3
  have g4 := f0 4
  clear f0
  go_wp2_with fail
  refine bodyPost_ret (v := .agg #[S tq, S bq, .bool s1, .int .i64 (s2 : Nat), .int .i64 0]) (by simp [results, Tryz.results16, go_sem, cell_set_same, cell_set_off, some_set, x0, x1, x2, x3, x4]) rfl ?_
  exact HOUT.out _ (((((HB.out.setCell (by simp) _).setCell (by simp) _).setCell (by simp) _).setCell (by simp) _).setCell (by simp) _)
end Go.Proofs.YtfkdailfcmnjlaaGreatDoor

namespace Go.Proofs.YtfkdailfcmnjlaaGreatDoor
open Go Go.ChangeShapes Go.WideShapes Go.ChangeAt Go.WideMaps Go.WideElems Go.RowKit Go.Deep
set_option maxRecDepth 100000

theorem in64_wf {n : Int} (h : (Lit.int .i64 n).wf = true) : In64 n := by
  have := h
  simp [Lit.wf, IntKind.min, IntKind.max, IntKind.signed, IntKind.bits] at this
  unfold In64
  exact this
variable {H : Type} {enc : TypeId × Value → H} {P : Program} {w : World} {base : Nat} {spare : Nat → Bool} {held : Bool}
theorem spot_none {a : Addr} {v : Value} (h : w.cell? a = some v) : ∃ b o, a = ⟨b, o, none⟩ := by
  obtain ⟨b, o, sp⟩ := a
  cases sp with
  | none => exact ⟨b, o, rfl⟩
  | some s =>
    exfalso
    simp only [World.cell?] at h
    split at h
    · simp at h
    · simp at h
end Go.Proofs.YtfkdailfcmnjlaaGreatDoor

namespace Go.Proofs.YtfkdailfcmnjlaaGreatDoor
open Go Go.ChangeShapes Go.WideShapes Go.ChangeAt Go.RowKit
set_option maxRecDepth 100000

theorem own : ownKnob Tryz.prog.godebug = none := by kernel_rfl
theorem gSpell : Tryz.prog.globalNamed "gavel/words.spellings" = some 0 := by kernel_rfl
theorem gRange : Tryz.prog.globalNamed "strconv.ErrRange" = some 4 := by kernel_rfl
theorem tSpell : (Tryz.prog.globals[0]?).map (·.type) = some 272 := by kernel_rfl
theorem tRange : (Tryz.prog.globals[4]?).map (·.type) = some 165 := by kernel_rfl
theorem cString : Tryz.prog.cellsOf 9 = 1 := by kernel_rfl
theorem cSpell : Tryz.prog.cellsOf 272 = 36 := by kernel_rfl
theorem uSpell : Tryz.prog.underlying 272 = some (.array 36 9) := by kernel_rfl
/-- The list of laid variables. -/
def laidL : List (String × DataW Unit) := [("math/bits.deBruijn32tab", Rows.laid_math_bits_deBruijn32tab), ("math/bits.deBruijn64tab", Rows.laid_math_bits_deBruijn64tab), ("internal/strconv.uint64pow10", Rows.laid_internal_strconv_uint64pow10), ("strconv.ErrRange", Rows.laid_strconv_ErrRange), ("strconv.ErrSyntax", Rows.laid_strconv_ErrSyntax), ("gavel/words.spellings", Rows.laid_gavel_words_spellings)]

theorem spell_datum : Rows.laid_gavel_words_spellings (H := Unit) = .agg (spell.map fun s => .lit (.string s)) := by kernel_rfl

theorem of_laid {W : World} (h : laidMetH Tryz.prog laidL W) : Wd W := by
  have h' : laidMet Tryz.prog laidL W := by
    rw [MakeChecks.laidMetH_plain _ _ _ (by kernel_rfl)] at h
    exact h
  have h3 := h'.tail.tail.tail
  have h5 := h3.tail.tail
  constructor
  · obtain ⟨ps, ⟨g0, t0, cs0, f0, p0, q0, hg0, ht0, hv0, hd0, _, _⟩, _, _⟩ := h5
    obtain rfl := Option.some.inj (gSpell.symm.trans hg0)
    obtain rfl := Option.some.inj (tSpell.symm.trans ht0)
    obtain ⟨xs, m, rfl, hx, hlen, hn, hel⟩ := DataW.trod_array uSpell hd0
    rw [cSpell] at hlen
    simp only [Prod.mk.injEq] at hx
    rw [spell_datum] at hx
    have hx1 : spell.map (fun s => (DataW.lit (.string s) : DataW Unit)) = xs.map (·.1) := by
      have := hx.1
      injection this
    intro k hk
    have he := hel k hk
    rw [cString, Nat.mul_one] at he
    have hkx : k < xs.length := by omega
    rw [List.getElem?_eq_getElem hkx] at he
    obtain ⟨s, e1, e2, _⟩ := DataW.trod_string Tryz.underlying9 he
    have hcell := World.var?_cell hg0 hv0 k
    rw [hcell]
    have hkc : k < cs0.toList.length := by omega
    have e3 : cs0[k]? = some (.string s) := by
      rw [List.drop_eq_getElem_cons hkc] at e1
      simp only [List.take_succ_cons, List.take_zero, List.cons.injEq, and_true] at e1
      rw [← Array.getElem?_toList, List.getElem?_eq_getElem hkc, e1]
    rw [e3]
    have e4 := congrArg (fun l => l[k]?) hx1
    have hks : k < spell.length := by rw [show spell.length = 36 from by decide]; exact hk
    simp only [List.getElem?_map, List.getElem?_eq_getElem hkx, List.getElem?_eq_getElem hks, Option.map_some, e2, Option.some.injEq, DataW.lit.injEq, Lit.string.injEq] at e4
    have e5 : spell.getD k [] = s.data.toList := by rw [List.getD_eq_getElem?_getD, List.getElem?_eq_getElem hks]; exact e4
    rw [e5]
  · obtain ⟨ps, ⟨g0, t0, cs0, f0, p0, q0, hg0, ht0, hv0, hd0, _, _⟩, _, _⟩ := h3
    obtain rfl := Option.some.inj (gRange.symm.trans hg0)
    obtain rfl := Option.some.inj (tRange.symm.trans ht0)
    have hcell := World.var?_cell hg0 hv0 0
    obtain ⟨l0⟩ := cs0
    cases f0 with
    | zero => simp [DataW.trod] at hd0
    | succ m =>
      unfold DataW.trod at hd0
      rw [Tryz.underlying165] at hd0
      split at hd0 <;> simp_all

/-- The door's own heap meets the condition. -/
theorem door_met (os : Os) (args : Array Value) : laidMetH Tryz.prog laidL ((World.doorLaid Tryz.prog 400 os).forCall (fun _ _ => 0) ⟨#[], args, []⟩).memory :=
  laidMetH_of_parts3 (fuel := 8) (laidMet_of_run' 8 (by kernel_rfl) (by kernel_rfl)) (by kernel_rfl) (by kernel_rfl)
end Go.Proofs.YtfkdailfcmnjlaaGreatDoor

namespace Go.Proofs.YtfkdailfcmnjlaaGreatDoor
open Go Go.ChangeShapes Go.WideShapes Go.ChangeAt Go.WideMaps Go.WideElems Go.RowKit Go.Deep
set_option maxRecDepth 100000

theorem cInt : Tryz.prog.cellsOf 3 = 1 := by kernel_rfl
theorem cI64 : Tryz.prog.cellsOf 2 = 1 := by kernel_rfl
theorem cBool : Tryz.prog.cellsOf 4 = 1 := by kernel_rfl
theorem cA1 : Tryz.prog.cellsOf 33 = 3 := by kernel_rfl
theorem cA2 : Tryz.prog.cellsOf 34 = 3 := by kernel_rfl
theorem cA3 : Tryz.prog.cellsOf 35 = 3 := by kernel_rfl
theorem cSc : Tryz.prog.cellsOf 37 = 16 := by kernel_rfl
variable {H : Type} {enc : TypeId × Value → H} {w : World} {base : Nat} {spare : Nat → Bool} {held : Bool}
theorem ints3 {t e : TypeId} {n : Nat} {a b c : Value} {x : DataW H × List MemPlace} (ht : Tryz.prog.underlying t = some (.array 3 e)) (hc : Tryz.prog.cellsOf e = 1) (hu : Tryz.prog.underlying e = some (.int .i64)) (h : DataW.trod enc Tryz.prog w base spare held n t [a, b, c] = some x) : ∃ i j k, a = .int .i64 i ∧ b = .int .i64 j ∧ c = .int .i64 k ∧ In64 i ∧ In64 j ∧ In64 k := by
  obtain ⟨xs, m, rfl, hx, hl, hn, hel⟩ := DataW.trod_array ht h
  match xs, hn with
  | [y0, y1, y2], _ =>
    have e0 : DataW.trod enc Tryz.prog w base spare held m e [a] = some y0 := by simpa [hc] using hel 0 (by omega)
    have e1 : DataW.trod enc Tryz.prog w base spare held m e [b] = some y1 := by simpa [hc] using hel 1 (by omega)
    have e2 : DataW.trod enc Tryz.prog w base spare held m e [c] = some y2 := by simpa [hc] using hel 2 (by omega)
    obtain ⟨i, w0, _, f0⟩ := DataW.trod_int hu e0
    obtain ⟨j, w1, _, f1⟩ := DataW.trod_int hu e1
    obtain ⟨k, w2, _, f2⟩ := DataW.trod_int hu e2
    simp at w0 w1 w2
    exact ⟨i, j, k, w0, w1, w2, in64_wf f0, in64_wf f1, in64_wf f2⟩
theorem bools3 {t e : TypeId} {n : Nat} {a b c : Value} {x : DataW H × List MemPlace} (ht : Tryz.prog.underlying t = some (.array 3 e)) (hc : Tryz.prog.cellsOf e = 1) (hu : Tryz.prog.underlying e = some .bool) (h : DataW.trod enc Tryz.prog w base spare held n t [a, b, c] = some x) : ∃ i j k, a = .bool i ∧ b = .bool j ∧ c = .bool k := by
  obtain ⟨xs, m, rfl, hx, hl, hn, hel⟩ := DataW.trod_array ht h
  match xs, hn with
  | [y0, y1, y2], _ =>
    have e0 : DataW.trod enc Tryz.prog w base spare held m e [a] = some y0 := by simpa [hc] using hel 0 (by omega)
    have e1 : DataW.trod enc Tryz.prog w base spare held m e [b] = some y1 := by simpa [hc] using hel 1 (by omega)
    have e2 : DataW.trod enc Tryz.prog w base spare held m e [c] = some y2 := by simpa [hc] using hel 2 (by omega)
    obtain ⟨i, w0, _⟩ := DataW.trod_bool hu e0
    obtain ⟨j, w1, _⟩ := DataW.trod_bool hu e1
    obtain ⟨k, w2, _⟩ := DataW.trod_bool hu e2
    simp at w0 w1 w2
    exact ⟨i, j, k, w0, w1, w2⟩
set_option maxHeartbeats 2000000 in
theorem open_scene {r : Reach} {b0 : Nat} {v : Value} {d : DataW H} {p : List MemPlace} (hv : Value.okWide Tryz.prog w r b0 37 v) (h : DataW.Trod enc Tryz.prog w base spare held 37 v d p) : ∃ c, v = .agg (scC c) ∧ ScnIn c := by
  obtain ⟨cs, rfl, hsz⟩ := okWide_struct Tryz.underlying37 hv
  obtain ⟨l⟩ := cs
  have hl : l.length = 16 := by simpa using hsz.trans cSc
  obtain ⟨c0, c1, c2, c3, c4, c5, c6, c7, c8, c9, c10, c11, c12, c13, c14, c15, rfl⟩ : ∃ c0 c1 c2 c3 c4 c5 c6 c7 c8 c9 c10 c11 c12 c13 c14 c15, l = [c0, c1, c2, c3, c4, c5, c6, c7, c8, c9, c10, c11, c12, c13, c14, c15] := by
    match l, hl with
    | [x0, x1, x2, x3, x4, x5, x6, x7, x8, x9, x10, x11, x12, x13, x14, x15], _ => exact ⟨x0, x1, x2, x3, x4, x5, x6, x7, x8, x9, x10, x11, x12, x13, x14, x15, rfl⟩
  obtain ⟨fuel, hf⟩ := h
  obtain ⟨xs, n, _, hx, _, hlen, hf⟩ := DataW.trod_struct Tryz.underlying37 hf
  match xs, hlen with
  | [y0, y1, y2, y3, y4, y5, y6, y7, y8, y9], _ =>
    have q0 : DataW.trod enc Tryz.prog w base spare held n 3 [c0] = some y0 := by simpa [Value.cells, cInt, cI64, cBool, cA1, cA2, cA3] using hf 0 _ rfl
    have q1 : DataW.trod enc Tryz.prog w base spare held n 3 [c1] = some y1 := by simpa [Value.cells, cInt, cI64, cBool, cA1, cA2, cA3] using hf 1 _ rfl
    have q2 : DataW.trod enc Tryz.prog w base spare held n 3 [c2] = some y2 := by simpa [Value.cells, cInt, cI64, cBool, cA1, cA2, cA3] using hf 2 _ rfl
    have q3 : DataW.trod enc Tryz.prog w base spare held n 2 [c3] = some y3 := by simpa [Value.cells, cInt, cI64, cBool, cA1, cA2, cA3] using hf 3 _ rfl
    have q4 : DataW.trod enc Tryz.prog w base spare held n 2 [c4] = some y4 := by simpa [Value.cells, cInt, cI64, cBool, cA1, cA2, cA3] using hf 4 _ rfl
    have q5 : DataW.trod enc Tryz.prog w base spare held n 33 [c5, c6, c7] = some y5 := by simpa [Value.cells, cInt, cI64, cBool, cA1, cA2, cA3] using hf 5 _ rfl
    have q6 : DataW.trod enc Tryz.prog w base spare held n 34 [c8, c9, c10] = some y6 := by simpa [Value.cells, cInt, cI64, cBool, cA1, cA2, cA3] using hf 6 _ rfl
    have q7 : DataW.trod enc Tryz.prog w base spare held n 35 [c11, c12, c13] = some y7 := by simpa [Value.cells, cInt, cI64, cBool, cA1, cA2, cA3] using hf 7 _ rfl
    have q8 : DataW.trod enc Tryz.prog w base spare held n 2 [c14] = some y8 := by simpa [Value.cells, cInt, cI64, cBool, cA1, cA2, cA3] using hf 8 _ rfl
    have q9 : DataW.trod enc Tryz.prog w base spare held n 4 [c15] = some y9 := by simpa [Value.cells, cInt, cI64, cBool, cA1, cA2, cA3] using hf 9 _ rfl
    obtain ⟨sn, w0, _, f0⟩ := DataW.trod_int Tryz.underlying3 q0
    obtain ⟨tg, w1, _, f1⟩ := DataW.trod_int Tryz.underlying3 q1
    obtain ⟨wa, w2, _, f2⟩ := DataW.trod_int Tryz.underlying3 q2
    obtain ⟨nd, w3, _, f3⟩ := DataW.trod_int Tryz.underlying2 q3
    obtain ⟨wh, w4, _, f4⟩ := DataW.trod_int Tryz.underlying2 q4
    obtain ⟨l0, l1, l2, u0, u1, u2, g0, g1, g2⟩ := ints3 Tryz.underlying33 cI64 Tryz.underlying2 q5
    obtain ⟨i0, i1, i2, t0, t1, t2, k0, k1, k2⟩ := ints3 Tryz.underlying34 cInt Tryz.underlying3 q6
    obtain ⟨a0, a1, a2, s0, s1, s2⟩ := bools3 Tryz.underlying35 cBool Tryz.underlying4 q7
    obtain ⟨df, w8, _, f8⟩ := DataW.trod_int Tryz.underlying2 q8
    obtain ⟨op, w9, _⟩ := DataW.trod_bool Tryz.underlying4 q9
    simp at w0 w1 w2 w3 w4 w8 w9
    subst w0 w1 w2 w3 w4 w8 w9 u0 u1 u2 t0 t1 t2 s0 s1 s2
    exact ⟨⟨sn, tg, wa, nd, wh, l0, l1, l2, i0, i1, i2, a0, a1, a2, df, op⟩, rfl, ⟨in64_wf f0, in64_wf f1, in64_wf f3, in64_wf f4, g0, g1, g2, k0, k1, k2, in64_wf f8⟩⟩
theorem IntsAt.below {v : Value} {zs : List Int} {w w' : World} (h : IntsAt v zs w) (hb : Below w.heap.size w w') : IntsAt v zs w' := by
  obtain ⟨h1, a, cap, e, h2⟩ := h
  refine ⟨h1, a, cap, e, fun i hi => ?_⟩
  obtain ⟨b, o, ea, hc⟩ := h2 i hi
  exact ⟨b, o, ea, by rw [hb.cell (p := ⟨b, o + i, none⟩) (World.block_lt_of_cell? w _ hc)]; exact hc⟩
theorem open_raw {r : Reach} {b0 : Nat} {v : Value} {d : DataW H} {p : List MemPlace} (hv : Value.okWide Tryz.prog w r b0 38 v) (h : DataW.Trod enc Tryz.prog w base (fun _ => true) held 38 v d p) : ∃ zs, IntsAt v zs w ∧ ∀ z ∈ zs, In64 z := by
  obtain ⟨a0, len, cap, rfl⟩ := okWide_slice Tryz.underlying38 hv
  obtain ⟨fuel, hf⟩ := h
  rcases Go.ChangeShapes.open_ints Tryz.underlying38 Tryz.underlying3 cInt hf with ⟨h0, _⟩ | ⟨a, n, c, zs, h0, _, hl, hm, hz, _, hc, hw⟩
  · simp [Value.cells] at h0
    obtain ⟨rfl, rfl, rfl⟩ := h0
    exact ⟨[], ⟨by simp, none, 0, rfl, fun i hi => by simp at hi⟩, by simp⟩
  · simp [Value.cells] at h0
    obtain ⟨rfl, rfl, rfl⟩ := h0
    simp at hz
    have hlen : (zs.take len).length = len := by simp; omega
    refine ⟨zs.take len, ⟨by rw [hlen]; omega, some a, cap, by rw [hlen], fun i hi => ?_⟩, fun z hz' => in64_wf (hw z (List.mem_of_mem_take hz'))⟩
    rw [hlen] at hi
    have h1 := hc i (by omega)
    have h0' := hc 0 (by omega)
    have e0 : a.add 0 = a := by simp [Addr.add]
    rw [e0] at h0'
    obtain ⟨b, o, rfl⟩ := spot_none h0'
    rw [Addr.add_mid] at h1
    refine ⟨b, o, rfl, ?_⟩
    rw [h1]
    congr 2
    simp only [List.getD_eq_getElem?_getD, List.getElem?_take]
    rw [if_pos hi]
theorem tPow : (Tryz.prog.globals[2]?).map (·.type) = some 333 := by kernel_rfl
theorem uPow : Tryz.prog.underlying 333 = some (.array 20 202) := by kernel_rfl
theorem eqPow : Rows.laid_internal_strconv_uint64pow10 (H := Unit) = Lib.tabData .u64 Lib.pow10Tab := by kernel_rfl
theorem tb_laid {W : World} (h : laidMetH Tryz.prog laidL W) : Tb W := by
  have h' : laidMet Tryz.prog laidL W := by
    rw [MakeChecks.laidMetH_plain _ _ _ (by kernel_rfl)] at h
    exact h
  have h2 := h'.tail.tail
  rw [eqPow] at h2
  exact Lib.tabIs_of_head gPow tPow uPow Tryz.underlying202 (by kernel_rfl) (by kernel_rfl) h2
theorem laid_out : laidOutB Tryz.prog = true := by kernel_rfl
end Go.Proofs.YtfkdailfcmnjlaaGreatDoor
