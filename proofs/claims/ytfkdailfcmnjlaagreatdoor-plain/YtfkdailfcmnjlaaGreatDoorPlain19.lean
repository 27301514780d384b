/-
  The library's FormatInt, and the program's plain form of a condition. The program's plain form of a condition. The program's plain form of a condition over two and over three. The program's plain form of an 'if'. The program's plain form of every condition is the plain function's. What the program's words tell. What the program tells of a tree of a condition in its memory.
-/
import Derived.Test.YtfkdailfcmnjlaaGreatDoorPlain01
import Derived.Test.YtfkdailfcmnjlaaGreatDoorPlain02
import Derived.Test.YtfkdailfcmnjlaaGreatDoorPlain04
import Derived.Test.YtfkdailfcmnjlaaGreatDoorPlain05
import Derived.Test.YtfkdailfcmnjlaaGreatDoorPlain06
import Derived.Test.YtfkdailfcmnjlaaGreatDoorPlain07
import Derived.Test.YtfkdailfcmnjlaaGreatDoorPlain08
import Derived.Test.YtfkdailfcmnjlaaGreatDoorPlain09
import Derived.Test.YtfkdailfcmnjlaaGreatDoorPlain10
import Derived.Test.YtfkdailfcmnjlaaGreatDoorPlain11
import Derived.Test.YtfkdailfcmnjlaaGreatDoorPlain12
import Derived.Test.YtfkdailfcmnjlaaGreatDoorPlain13
import Derived.Test.YtfkdailfcmnjlaaGreatDoorPlain14
import Derived.Test.YtfkdailfcmnjlaaGreatDoorPlain15
import Derived.Test.YtfkdailfcmnjlaaGreatDoorPlain16
import Derived.Test.YtfkdailfcmnjlaaGreatDoorPlain17
import Derived.Test.YtfkdailfcmnjlaaGreatDoorPlain18
import Derived.Test.YtfkdailfcmnjlaaGreatDoorLays2
import Derived.Test.YtfkdailfcmnjlaaGreatDoorLays
import Derived.Lib.LaidTab
import Derived.Lib.AppendIntMem
import Derived.WalkKit
import Derived.Deep.QuietTactic
import Derived.BigQuiet
import Derived.WalkSpells
import GoSem.Op.String
import Derived.Deep.AppendLies
import Derived.Deep.RegionHeld3
import Derived.Deep.DrawnRows
import Derived.Deep.RegionHeldLaw
import Derived.Deep.RegionLaw
import Derived.Lib.ParseIntBCases
import Derived.Deep.OwnRows
set_option linter.unusedVariables false
set_option linter.unusedSimpArgs false
namespace Go.Proofs.YtfkdailfcmnjlaaGreatDoor
open Go Go.RowKit
set_option maxRecDepth 100000
attribute [local go_sem ↓] Go.wp_at_zero Go.wp_at_succ
variable {bs : Nat}

theorem dec_tens (f n : Nat) (h : n < 10 ^ f) (h0 : 0 < f) : Lib.decDigits n = tensF f n := by
  induction f generalizing n with
  | zero => omega
  | succ f ih =>
    rw [Lib.decDigits, tensF]
    by_cases hn : n < 10
    · rw [dif_pos hn, if_pos hn]
    · rw [dif_neg hn, if_neg hn]
      have hf0 : 0 < f := by
        rcases Nat.eq_zero_or_pos f with rfl | h1
        · simp at h; omega
        · exact h1
      rw [Nat.pow_succ] at h
      rw [ih (n / 10) (by omega) hf0]
/-- The library's table of powers. -/
def Tb (w : World) : Prop := Lib.TabIs Tryz.prog w "internal/strconv.uint64pow10" .u64 Lib.pow10Tab
theorem gPow : Tryz.prog.globalNamed "internal/strconv.uint64pow10" = some 2 := by kernel_rfl
theorem Tb.below {w w' : World} (h : Tb w) (hb : Below w.heap.size w w') : Tb w' := by
  unfold Tb Lib.TabIs World.var? at *
  rw [gPow] at *
  simp only [Option.bind_some] at *
  have hlt : 2 < w.heap.size := by
    rcases Nat.lt_or_ge 2 w.heap.size with h1 | h1
    · exact h1
    · rw [Array.getElem?_eq_none h1] at h; simp at h
  rw [hb.block _ hlt]; exact h
theorem formatInt_any (n : Nat) (h : n ≤ 9223372036854775807) (w : World) (hT : Tb w) : Calls Tryz.prog 120 #[.int .i64 n, .int .i64 10] w fun e w' => e = .returned (S (tensL n)) ∧ Below w.heap.size w w' := by
  refine (Any.strconv_FormatInt_10 laysM173 (n : Int) (by omega) (by omega) w hT).mono ?_
  rintro e w' ⟨rfl, k, os, rfl⟩
  refine ⟨?_, Lib.below_grow _ _ (Nat.le_refl _) _ _⟩
  have e1 : Lib.itoa (n : Int) = tensL n := by
    unfold Lib.itoa tensL
    rw [if_neg (by omega), Int.toNat_natCast]
    exact dec_tens 20 n (by have : (10 : Nat) ^ 20 = 100000000000000000000 := by decide
                            omega) (by decide)
  rw [e1]
end Go.Proofs.YtfkdailfcmnjlaaGreatDoor

namespace Go.Proofs.YtfkdailfcmnjlaaGreatDoor
open Go Go.RowKit
set_option maxRecDepth 100000
attribute [local go_sem ↓] Go.wp_at_zero Go.wp_at_succ
variable {bs : Nat}

/-- What a condition's plain form needs of its words. -/
structure PlainOK (L : List Pt) : Prop where
  tokw : ∀ k, k < L.length → TokW (L.getD k noPt).tok
  short : ∀ k, k < L.length → (L.getD k noPt).tok.text.length ≤ 1000
  num : ∀ k, k < L.length → (L.getD k noPt).tok.k = 110 → decVal (L.getD k noPt).tok.text ≤ 9223372036854775807
  few : L.length ≤ 5000

set_option maxHeartbeats 4000000 in
theorem pplain_not {L : List Pt} {N : Tok → Int → Prop} {i b : Nat} {w : World} (hC : CondS bs L N w i b) (hk : kindOf (L.getD i noPt).tok = 19) (hl : (L.getD i noPt).subs.length = 1) (r : List UInt8) (hr : r.length ≤ 100000000)
    (HI : ∀ (bj : Nat) (w1 : World), CondS bs L N w1 ((L.getD i noPt).subs.getD 0 0) bj → Below w.heap.size w w1 → Calls Tryz.prog 67 #[.pointer (some ⟨bj, 0, none⟩)] w1 fun e w' => e = .returned (S r) ∧ Below w1.heap.size w1 w') :
    Calls Tryz.prog 67 #[.pointer (some ⟨b, 0, none⟩)] w fun e w' => e = .returned (S (overL [] [r])) ∧ Below w.heap.size w w' := by
  obtain ⟨u, n, bl, hi, hlo, hn, hb, hu, hs⟩ := hC.inv
  obtain ⟨⟨c0, c1, c2, c3, c4, c5⟩, cf⟩ := cd_cells hb
  obtain ⟨au, rfl, ha⟩ := hu.slice
  obtain ⟨g, rfl, hg⟩ := ha 0 (by omega)
  have hcell := under_cell hg 0 (by omega)
  have W1 := HI (bl 0) w (hs 0 (by omega)) (Below.refl _ _)
  rw [hk] at c0
  rw [hl] at c4
  have HE : Hid (overL [] [r] = wsNot ++ r ++ [41]) := rfl
  generalize overL [] [r] = q at *
  clear hC hb hu hs ha hg hn HI
  go_enter Tryz.func67, Tryz.ntmps67
  go_wp2_with fail
  refine W1.mono ?_
  rintro e w1 ⟨rfl, hb1⟩
  clear W1
  go_wp2_with fail
  go_ret
  refine ⟨?_, hb1⟩
  rw [HE.out]
  have e1 := ba_cat wsNot r
  have e2 := ba_cat (wsNot ++ r) [41]
  exact congrArg (fun s => Ending.returned (Value.string s)) (by rw [← e2, ← e1]; rfl)

set_option maxHeartbeats 4000000 in
theorem pplain_num {L : List Pt} {N : Tok → Int → Prop} {i b : Nat} {w : World} (hC : CondS bs L N w i b) (hk : (L.getD i noPt).tok.k = 110) (hn : decVal (L.getD i noPt).tok.text ≤ 9223372036854775807) (hT : Tb w) :
    Calls Tryz.prog 67 #[.pointer (some ⟨b, 0, none⟩)] w fun e w' => e = .returned (S (tensL (decVal (L.getD i noPt).tok.text))) ∧ Below w.heap.size w w' := by
  obtain ⟨u, n, bl, hi, hlo, _, hb, hu, hs⟩ := hC.inv
  obtain ⟨⟨c0, c1, c2, c3, c4, c5⟩, cf⟩ := cd_cells hb
  have e1 : kindOf (L.getD i noPt).tok = 1 := by unfold kindOf; rw [if_pos hk]
  have e2 : nmOf (L.getD i noPt).tok = decVal (L.getD i noPt).tok.text := by unfold nmOf; rw [if_pos hk]
  rw [e1] at c0
  rw [e2] at c2
  have W1 := formatInt_any (decVal (L.getD i noPt).tok.text) hn w hT
  clear hC hb hu hs hk e1 e2 hT
  generalize tensL (decVal (L.getD i noPt).tok.text) = q at *
  generalize decVal (L.getD i noPt).tok.text = m at *
  go_enter Tryz.func67, Tryz.ntmps67
  go_wp2_with fail
  refine W1.mono ?_
  rintro e w1 ⟨rfl, hb1⟩
  clear W1
  go_wp2_with fail
  go_ret
  exact ⟨rfl, hb1⟩
set_option maxHeartbeats 4000000 in
theorem pplain_own {L : List Pt} {N : Tok → Int → Prop} {i b : Nat} {w : World} (hC : CondS bs L N w i b) (hk : (L.getD i noPt).tok.k = 111) :
    Calls Tryz.prog 67 #[.pointer (some ⟨b, 0, none⟩)] w fun e w' => e = .returned (S (L.getD i noPt).tok.text) ∧ Below w.heap.size w w' := by
  obtain ⟨u, n, bl, hi, hlo, _, hb, hu, hs⟩ := hC.inv
  obtain ⟨⟨c0, c1, c2, c3, c4, c5⟩, cf⟩ := cd_cells hb
  have e1 := kind_two.2 hk
  have e2 : ownOf (L.getD i noPt).tok = (L.getD i noPt).tok.text := by unfold ownOf; rw [if_pos hk]
  rw [e1] at c0
  rw [e2] at c3
  clear hC hb hu hs hk e1 e2
  generalize (L.getD i noPt).tok.text = q at *
  go_enter Tryz.func67, Tryz.ntmps67
  go_wp2_with fail
  go_ret
  exact ⟨rfl, Below.refl _ _⟩
set_option maxHeartbeats 4000000 in
theorem pplain_word {L : List Pt} {N : Tok → Int → Prop} {i b : Nat} {w : World} (hC : CondS bs L N w i b) (hs0 : (L.getD i noPt).subs = []) (hk : 20 ≤ kindOf (L.getD i noPt).tok ∧ kindOf (L.getD i noPt).tok ≤ 35) (hS : Sp w) :
    Calls Tryz.prog 67 #[.pointer (some ⟨b, 0, none⟩)] w fun e w' => e = .returned (S (spell.getD (kindOf (L.getD i noPt).tok) [])) ∧ Below w.heap.size w w' := by
  obtain ⟨u, n, bl, hi, hlo, _, hb, hu, hs⟩ := hC.inv
  obtain ⟨⟨c0, c1, c2, c3, c4, c5⟩, cf⟩ := cd_cells hb
  have hu0 : u = .slice none 0 0 := by
    rw [hs0] at hu; rcases hu with hu | hu
    · exact hu.2
    · simp at hu
  subst hu0
  have W1 := spelling_any (kindOf (L.getD i noPt).tok) w hS (by omega)
  clear hC hb hu hs hs0 hS
  generalize spell.getD (kindOf (L.getD i noPt).tok) [] = q at *
  generalize kindOf (L.getD i noPt).tok = kd at *
  have n1 : ((kd : Int) == (1 : Int)) = false := by have : ¬ ((kd : Int) = 1) := by omega
                                                    simpa using this
  have n2 : ((kd : Int) == (2 : Int)) = false := by have : ¬ ((kd : Int) = 2) := by omega
                                                    simpa using this
  have n3 : ((kd : Int) == (19 : Int)) = false := by have : ¬ ((kd : Int) = 19) := by omega
                                                     simpa using this
  have n4 : ((kd : Int) == (14 : Int)) = false := by have : ¬ ((kd : Int) = 14) := by omega
                                                     simpa using this
  go_enter Tryz.func67, Tryz.ntmps67
  go_wp2_with fail
  refine W1.mono ?_
  rintro e w1 ⟨rfl, rfl⟩
  clear W1
  go_wp2_with fail
  go_ret
  exact ⟨rfl, Below.refl _ _⟩
end Go.Proofs.YtfkdailfcmnjlaaGreatDoor

namespace Go.Proofs.YtfkdailfcmnjlaaGreatDoor
open Go Go.RowKit
set_option maxRecDepth 100000
attribute [local go_sem ↓] Go.wp_at_zero Go.wp_at_succ
variable {bs : Nat}

set_option maxHeartbeats 1000000 in
theorem pplain_two {L : List Pt} {N : Tok → Int → Prop} {i b : Nat} {w : World} (hC : CondS bs L N w i b) (hk : kindOf (L.getD i noPt).tok ≠ 1 ∧ kindOf (L.getD i noPt).tok ≠ 2 ∧ kindOf (L.getD i noPt).tok ≠ 19 ∧ kindOf (L.getD i noPt).tok ≠ 14 ∧ kindOf (L.getD i noPt).tok < 36) (hl : (L.getD i noPt).subs.length = 2) (r1 r2 : List UInt8) (hr1 : r1.length ≤ 100000000) (hr2 : r2.length ≤ 100000000) (hS : Sp w) (hsp : (spell.getD (kindOf (L.getD i noPt).tok) []).length ≤ 100)
    (HI1 : ∀ (bj : Nat) (w1 : World), CondS bs L N w1 ((L.getD i noPt).subs.getD 0 0) bj → Below w.heap.size w w1 → Calls Tryz.prog 67 #[.pointer (some ⟨bj, 0, none⟩)] w1 fun e w' => e = .returned (S r1) ∧ Below w1.heap.size w1 w')
    (HI2 : ∀ (bj : Nat) (w1 : World), CondS bs L N w1 ((L.getD i noPt).subs.getD 1 0) bj → Below w.heap.size w w1 → Calls Tryz.prog 67 #[.pointer (some ⟨bj, 0, none⟩)] w1 fun e w' => e = .returned (S r2) ∧ Below w1.heap.size w1 w') :
    Calls Tryz.prog 67 #[.pointer (some ⟨b, 0, none⟩)] w fun e w' => e = .returned (S (overL (spell.getD (kindOf (L.getD i noPt).tok) []) [r1, r2])) ∧ Below w.heap.size w w' := by
  obtain ⟨u, n, bl, hi, hlo, hn, hb, hu, hs⟩ := hC.inv
  obtain ⟨⟨c0, c1, c2, c3, c4, c5⟩, cf⟩ := cd_cells hb
  obtain ⟨au, rfl, ha⟩ := hu.slice
  obtain ⟨g, rfl, hg⟩ := ha 0 (by omega)
  have d0 := under_cell hg 0 (by omega)
  have d1 := under_cell hg 1 (by omega)
  rw [hl] at c4
  have HE : Hid (overL (spell.getD (kindOf (L.getD i noPt).tok) []) [r1, r2] = [40] ++ r1 ++ [32] ++ spell.getD (kindOf (L.getD i noPt).tok) [] ++ [32] ++ r2 ++ [41]) := rfl
  generalize overL (spell.getD (kindOf (L.getD i noPt).tok) []) [r1, r2] = q at *
  have W1 := fun w1 (h : Below w.heap.size w w1) => HI1 (bl 0) w1 ((hs 0 (by omega)).grow h) h
  have W2 := fun w1 (h : Below w.heap.size w w1) => HI2 (bl 1) w1 ((hs 1 (by omega)).grow h) h
  have W3 := fun w1 (h : Below w.heap.size w w1) => spelling_any (kindOf (L.getD i noPt).tok) w1 (hS.below hS.pos h) hk.2.2.2.2
  clear hC hb hu hs ha hg hn HI1 HI2 hS
  obtain ⟨k1, k2, k3, k4, k5⟩ := hk
  generalize spell.getD (kindOf (L.getD i noPt).tok) [] = sp at *
  generalize kindOf (L.getD i noPt).tok = kd at *
  have n1 : ((kd : Int) == (1 : Int)) = false := by have : ¬ ((kd : Int) = 1) := by omega
                                                    simpa using this
  have n2 : ((kd : Int) == (2 : Int)) = false := by have : ¬ ((kd : Int) = 2) := by omega
                                                    simpa using this
  have n3 : ((kd : Int) == (19 : Int)) = false := by have : ¬ ((kd : Int) = 19) := by omega
                                                     simpa using this
  have n4 : ((kd : Int) == (14 : Int)) = false := by have : ¬ ((kd : Int) = 14) := by omega
                                                     simpa using this
  go_enter Tryz.func67, Tryz.ntmps67
  go_wp2_with fail
  have keepF : ∀ w', Below w.heap.size w w' → (w'.cell? ⟨b, 4, none⟩ = some (.slice (some ⟨g, 0, none⟩) 2 2) ∧ w'.cell? ⟨g, 0, none⟩ = some (.pointer (some ⟨bl 0, 0, none⟩)) ∧ w'.cell? ⟨g, 1, none⟩ = some (.pointer (some ⟨bl 1, 0, none⟩)) ∧ w'.cell? ⟨b, 0, none⟩ = some (.int .i64 kd)) := fun w' h => by
    rw [h.cell (p := ⟨b, 4, none⟩) (World.block_lt_of_cell? w _ c4), h.cell (p := ⟨g, 0, none⟩) (World.block_lt_of_cell? w _ d0), h.cell (p := ⟨g, 1, none⟩) (World.block_lt_of_cell? w _ d1), h.cell (p := ⟨b, 0, none⟩) (World.block_lt_of_cell? w _ c0)]
    exact ⟨c4, d0, d1, c0⟩
  have KF : Hid _ := keepF
  clear keepF c1 c2 c3 c5 cf
  have s1 : ¬ 9223372036854775807 < 1 + r1.length := by omega
  have s2 : ¬ 9223372036854775807 < 1 + r1.length + 1 := by omega
  have s3 : ¬ 9223372036854775807 < 1 + r1.length + 1 + sp.length := by omega
  have s4 : ¬ 9223372036854775807 < 1 + r1.length + 1 + sp.length + 1 := by omega
  have s5 : ¬ 9223372036854775807 < 1 + r1.length + 1 + sp.length + 1 + r2.length := by omega
  have s6 : ¬ 9223372036854775807 < 1 + r1.length + 1 + sp.length + 1 + r2.length + 1 := by omega
  go_region_held3 (fun w' => w'.cell? ⟨b, 4, none⟩ = some (.slice (some ⟨g, 0, none⟩) 2 2) ∧ w'.cell? ⟨g, 0, none⟩ = some (.pointer (some ⟨bl 0, 0, none⟩)) ∧ w'.cell? ⟨g, 1, none⟩ = some (.pointer (some ⟨bl 1, 0, none⟩)) ∧ w'.cell? ⟨b, 0, none⟩ = some (.int .i64 kd)) (first | exact KF.out _ hB7 | exact KF.out _ hB5 | go_keep) ((first | (go_at_call 119; refine (W3 _ hB5).mono ?_; rintro e w6 ⟨rfl, hw6⟩; subst hw6) | (go_at_call 67; refine (W2 _ hB5).mono ?_; rintro e w7 ⟨rfl, hb7⟩; have hB7 := hB5.trans (hb7.mono hB5.size)) | (go_at_call 67; refine (W1 _ (Below.refl _ _).drew).mono ?_; rintro e w5 ⟨rfl, hb5⟩; have hB5 : Below w.heap.size w w5 := (Below.refl _ _).drew.trans hb5)))
  all_goals rename_i hHeld
  all_goals clear hHeld
  all_goals go_wp2_with fail
  all_goals go_ret
  all_goals refine ⟨?_, hB7⟩
  all_goals rw [HE.out]
  all_goals have e1 := ba_cat [40] r1
  all_goals have e2 := ba_cat ([40] ++ r1) [32]
  all_goals have e3 := ba_cat ([40] ++ r1 ++ [32]) sp
  all_goals have e4 := ba_cat ([40] ++ r1 ++ [32] ++ sp) [32]
  all_goals have e5 := ba_cat ([40] ++ r1 ++ [32] ++ sp ++ [32]) r2
  all_goals have e6 := ba_cat ([40] ++ r1 ++ [32] ++ sp ++ [32] ++ r2) [41]
  all_goals exact congrArg (fun s => Ending.returned (Value.string s)) (by rw [← e6, ← e5, ← e4, ← e3, ← e2, ← e1])
end Go.Proofs.YtfkdailfcmnjlaaGreatDoor

namespace Go.Proofs.YtfkdailfcmnjlaaGreatDoor
open Go Go.RowKit
set_option maxRecDepth 100000
attribute [local go_sem ↓] Go.wp_at_zero Go.wp_at_succ
variable {bs : Nat}

set_option maxHeartbeats 2000000 in
theorem pplain_if {L : List Pt} {N : Tok → Int → Prop} {i b : Nat} {w : World} (hC : CondS bs L N w i b) (hk : kindOf (L.getD i noPt).tok = 14) (hl : (L.getD i noPt).subs.length = 3) (tx r1 r2 r3 : List UInt8) (hr1 : r1.length ≤ 100000000) (hr2 : r2.length ≤ 100000000) (hr3 : r3.length ≤ 100000000)
    (HI1 : ∀ (bj : Nat) (w1 : World), CondS bs L N w1 ((L.getD i noPt).subs.getD 0 0) bj → Below w.heap.size w w1 → Calls Tryz.prog 67 #[.pointer (some ⟨bj, 0, none⟩)] w1 fun e w' => e = .returned (S r1) ∧ Below w1.heap.size w1 w')
    (HI2 : ∀ (bj : Nat) (w1 : World), CondS bs L N w1 ((L.getD i noPt).subs.getD 1 0) bj → Below w.heap.size w w1 → Calls Tryz.prog 67 #[.pointer (some ⟨bj, 0, none⟩)] w1 fun e w' => e = .returned (S r2) ∧ Below w1.heap.size w1 w')
    (HI3 : ∀ (bj : Nat) (w1 : World), CondS bs L N w1 ((L.getD i noPt).subs.getD 2 0) bj → Below w.heap.size w w1 → Calls Tryz.prog 67 #[.pointer (some ⟨bj, 0, none⟩)] w1 fun e w' => e = .returned (S r3) ∧ Below w1.heap.size w1 w') :
    Calls Tryz.prog 67 #[.pointer (some ⟨b, 0, none⟩)] w fun e w' => e = .returned (S (overL tx [r1, r2, r3])) ∧ Below w.heap.size w w' := by
  obtain ⟨u, n, bl, hi, hlo, hn, hb, hu, hs⟩ := hC.inv
  obtain ⟨⟨c0, c1, c2, c3, c4, c5⟩, cf⟩ := cd_cells hb
  obtain ⟨au, rfl, ha⟩ := hu.slice
  obtain ⟨g, rfl, hg⟩ := ha 0 (by omega)
  have d0 := under_cell hg 0 (by omega)
  have d1 := under_cell hg 1 (by omega)
  have d2 := under_cell hg 2 (by omega)
  rw [hl] at c4
  rw [hk] at c0
  have HE : Hid (overL tx [r1, r2, r3] = wsIf ++ r1 ++ wsThen ++ r2 ++ wsElse ++ r3 ++ [41]) := rfl
  generalize overL tx [r1, r2, r3] = q at *
  have W1 := fun w1 (h : Below w.heap.size w w1) => HI1 (bl 0) w1 ((hs 0 (by omega)).grow h) h
  have W2 := fun w1 (h : Below w.heap.size w w1) => HI2 (bl 1) w1 ((hs 1 (by omega)).grow h) h
  have W3 := fun w1 (h : Below w.heap.size w w1) => HI3 (bl 2) w1 ((hs 2 (by omega)).grow h) h
  clear hC hb hu hs ha hg hn HI1 HI2 HI3
  have keepF : ∀ w', Below w.heap.size w w' → (w'.cell? ⟨b, 4, none⟩ = some (.slice (some ⟨g, 0, none⟩) 3 3) ∧ w'.cell? ⟨g, 0, none⟩ = some (.pointer (some ⟨bl 0, 0, none⟩)) ∧ w'.cell? ⟨g, 1, none⟩ = some (.pointer (some ⟨bl 1, 0, none⟩)) ∧ w'.cell? ⟨g, 2, none⟩ = some (.pointer (some ⟨bl 2, 0, none⟩))) := fun w' h => by
    rw [h.cell (p := ⟨b, 4, none⟩) (World.block_lt_of_cell? w _ c4), h.cell (p := ⟨g, 0, none⟩) (World.block_lt_of_cell? w _ d0), h.cell (p := ⟨g, 1, none⟩) (World.block_lt_of_cell? w _ d1), h.cell (p := ⟨g, 2, none⟩) (World.block_lt_of_cell? w _ d2)]
    exact ⟨c4, d0, d1, d2⟩
  have KF : Hid _ := keepF
  clear keepF c1 c2 c3 c5 cf
  have s1 : ¬ 9223372036854775807 < 4 + r1.length := by omega
  have s2 : ¬ 9223372036854775807 < 4 + r1.length + 6 := by omega
  have s3 : ¬ 9223372036854775807 < 4 + r1.length + 6 + r2.length := by omega
  have s4 : ¬ 9223372036854775807 < 4 + r1.length + 6 + r2.length + 6 := by omega
  have s5 : ¬ 9223372036854775807 < 4 + r1.length + 6 + r2.length + 6 + r3.length := by omega
  have s6 : ¬ 9223372036854775807 < 4 + r1.length + 6 + r2.length + 6 + r3.length + 1 := by omega
  go_enter Tryz.func67, Tryz.ntmps67
  go_wp2_with fail
  go_region_held3 (fun w' => w'.cell? ⟨b, 4, none⟩ = some (.slice (some ⟨g, 0, none⟩) 3 3) ∧ w'.cell? ⟨g, 0, none⟩ = some (.pointer (some ⟨bl 0, 0, none⟩)) ∧ w'.cell? ⟨g, 1, none⟩ = some (.pointer (some ⟨bl 1, 0, none⟩)) ∧ w'.cell? ⟨g, 2, none⟩ = some (.pointer (some ⟨bl 2, 0, none⟩))) (first | exact KF.out _ hB9 | exact KF.out _ hB7 | exact KF.out _ hB5 | go_keep) ((first | (go_at_call 67; refine (W3 _ hB7).mono ?_; rintro e w9 ⟨rfl, hb9⟩; have hB9 := hB7.trans (hb9.mono hB7.size)) | (go_at_call 67; refine (W2 _ hB5).mono ?_; rintro e w7 ⟨rfl, hb7⟩; have hB7 := hB5.trans (hb7.mono hB5.size)) | (go_at_call 67; refine (W1 _ (Below.refl _ _).drew).mono ?_; rintro e w5 ⟨rfl, hb5⟩; have hB5 : Below w.heap.size w w5 := (Below.refl _ _).drew.trans hb5)))
  all_goals rename_i hHeld
  all_goals clear hHeld
  all_goals go_wp2_with fail
  all_goals go_ret
  all_goals refine ⟨?_, hB9⟩
  all_goals rw [HE.out]
  all_goals have e1 := ba_cat wsIf r1
  all_goals have e2 := ba_cat (wsIf ++ r1) wsThen
  all_goals have e3 := ba_cat (wsIf ++ r1 ++ wsThen) r2
  all_goals have e4 := ba_cat (wsIf ++ r1 ++ wsThen ++ r2) wsElse
  all_goals have e5 := ba_cat (wsIf ++ r1 ++ wsThen ++ r2 ++ wsElse) r3
  all_goals have e6 := ba_cat (wsIf ++ r1 ++ wsThen ++ r2 ++ wsElse ++ r3) [41]
  all_goals exact congrArg (fun s => Ending.returned (Value.string s)) (by rw [← e6, ← e5, ← e4, ← e3, ← e2, ← e1]; rfl)
end Go.Proofs.YtfkdailfcmnjlaaGreatDoor

namespace Go.Proofs.YtfkdailfcmnjlaaGreatDoor
open Go Go.RowKit
set_option maxRecDepth 100000
variable {bs : Nat}

theorem spell_text : ∀ x ∈ spell.drop 3, spell.getD (kn x) [] = x ∧ kn x < 36 ∧ x.length ≤ 100 := by decide
theorem join_kinds : ∀ x ∈ ([[43], [45], [60], [60, 61], [61], [111, 114], [97, 110, 100]] : List (List UInt8)), kn x ≠ 1 ∧ kn x ≠ 2 ∧ kn x ≠ 19 ∧ kn x ≠ 14 ∧ kn x < 36 ∧ (spell.getD (kn x) []).length ≤ 100 ∧ spell.getD (kn x) [] = x := by decide
theorem list_two {α : Type} {F : Nat → α} {l : List Nat} (h : l.length = 2) : l.map F = [F (l.getD 0 0), F (l.getD 1 0)] := by
  match l, h with
  | [a, b], _ => rfl
theorem list_three {α : Type} {F : Nat → α} {l : List Nat} (h : l.length = 3) : l.map F = [F (l.getD 0 0), F (l.getD 1 0), F (l.getD 2 0)] := by
  match l, h with
  | [a, b, c], _ => rfl
theorem list_one {α : Type} {F : Nat → α} {l : List Nat} (h : l.length = 1) : l.map F = [F (l.getD 0 0)] := by
  match l, h with
  | [a], _ => rfl
theorem getD_in {l : List Nat} {j : Nat} (h : j < l.length) : l.getD j 0 ∈ l := by rw [List.getD_eq_getElem?_getD, List.getElem?_eq_getElem h]; exact List.getElem_mem h

theorem pplain_any {L : List Pt} {N : Tok → Int → Prop} (hL : PlainOK L) (f : Nat) : ∀ {lo i b : Nat} {w : World}, TreeF f L lo i → CondS bs L N w i b → Sp w → Tb w →
    Calls Tryz.prog 67 #[.pointer (some ⟨b, 0, none⟩)] w fun e w' => e = .returned (S (plainF f L i)) ∧ Below w.heap.size w w' := by
  induction f with
  | zero => intro lo i b w h; exact h.elim
  | succ f ih =>
    intro lo i b w hT hC hS hTb
    have hlt := hT.lt
    have hsub := forest_bounds _ hT.2.2
    have hlen : ∀ j ∈ (L.getD i noPt).subs, (plainF f L j).length ≤ 100000000 := fun j hj => by
      obtain ⟨lo', h1, h2, h3⟩ := hsub j hj
      have := TreeF.plain_len hL.short h3
      have h4 := h3.lt
      have h5 := hL.few
      have : 1100 * (j + 1 - lo') ≤ 1100 * 5000 := Nat.mul_le_mul_left _ (by omega)
      omega
    have hrec : ∀ j, j < (L.getD i noPt).subs.length → ∀ (bj : Nat) (w1 : World), CondS bs L N w1 ((L.getD i noPt).subs.getD j 0) bj → Below w.heap.size w w1 → Calls Tryz.prog 67 #[.pointer (some ⟨bj, 0, none⟩)] w1 fun e w' => e = .returned (S (plainF f L ((L.getD i noPt).subs.getD j 0))) ∧ Below w1.heap.size w1 w' := fun j hj bj w1 hCj hb => by
      obtain ⟨lo', h1, h2, h3⟩ := hsub _ (getD_in hj)
      exact ih h3 hCj (hS.below hS.pos hb) (hTb.below hb)
    rw [plainF]
    by_cases hn : (L.getD i noPt).tok.k = 110
    · rw [if_pos hn]; exact pplain_num hC hn (hL.num i hlt hn) hTb
    · rw [if_neg hn]
      rcases hT.2.1 with ⟨ha, hs0⟩ | ⟨hw, hl⟩ | ⟨hw, hl⟩ | ⟨m, hm, hj, hl⟩
      · rw [hs0]
        show Calls _ _ _ _ fun e w' => e = .returned (S (L.getD i noPt).tok.text) ∧ _
        by_cases ho : (L.getD i noPt).tok.k = 111
        · exact pplain_own hC ho
        · have htw := hL.tokw i hlt
          rw [alone_iff htw] at ha
          have hk : 20 ≤ kindOf (L.getD i noPt).tok ∧ kindOf (L.getD i noPt).tok ≤ 35 := by
            unfold standsK at ha
            simp only [Bool.or_eq_true, Bool.and_eq_true, decide_eq_true_eq] at ha
            rcases ha with (h1 | h1) | h1
            · exfalso
              rcases htw.cases with h2 | h2 | h2 | ⟨h2, hm⟩
              · exact hn h2
              · exact ho h2
              · unfold kindOf at h1; rw [if_neg hn, if_neg ho, if_pos h2] at h1; simp at h1
              · rw [kind_word h2] at h1; have := spell_big _ hm; unfold kn at h1; omega
            · exact absurd (kind_two.1 h1) ho
            · exact h1
          have hx : (L.getD i noPt).tok.text ∈ spell.drop 3 ∧ kindOf (L.getD i noPt).tok = kn (L.getD i noPt).tok.text := by
            rcases htw.cases with h2 | h2 | h2 | ⟨h2, hm⟩
            · exact absurd h2 hn
            · exact absurd h2 ho
            · exfalso; unfold kindOf at hk; rw [if_neg hn, if_neg ho, if_pos h2] at hk; omega
            · exact ⟨hm, kind_word h2⟩
          have h3 := pplain_word hC hs0 hk hS
          rw [hx.2, (spell_text _ hx.1).1] at h3
          exact h3
      · obtain ⟨e, hk⟩ := isW_text hw
        rw [list_one hl]
        have h3 := pplain_not hC (by rw [kind_word hk, e]; decide) hl (plainF f L ((L.getD i noPt).subs.getD 0 0)) (hlen _ (getD_in (by omega))) (hrec 0 (by omega))
        exact h3
      · obtain ⟨e, hk⟩ := isW_text hw
        rw [list_three hl]
        exact pplain_if hC (by rw [kind_word hk, e]; decide) hl _ _ _ _ (hlen _ (getD_in (by omega))) (hlen _ (getD_in (by omega))) (hlen _ (getD_in (by omega))) (hrec 0 (by omega)) (hrec 1 (by omega)) (hrec 2 (by omega))
      · obtain ⟨e, hk⟩ := joins_text hj
        obtain ⟨a1, a2, a3, a4, a5, a6, a7⟩ := join_kinds _ e
        rw [list_two hl]
        have hkk := kind_word hk
        have h3 := pplain_two hC (by rw [hkk]; exact ⟨a1, a2, a3, a4, a5⟩) hl _ _ (hlen _ (getD_in (by omega))) (hlen _ (getD_in (by omega))) hS (by rw [hkk]; exact a6) (hrec 0 (by omega)) (hrec 1 (by omega))
        rw [hkk, a7] at h3
        exact h3
end Go.Proofs.YtfkdailfcmnjlaaGreatDoor

namespace Go.Proofs.YtfkdailfcmnjlaaGreatDoor
open Go Go.RowKit
set_option maxRecDepth 100000
attribute [local go_sem ↓] Go.wp_at_zero Go.wp_at_succ
variable {bs : Nat}

/-- The teller's cells: the fields, and what the lets told. -/
structure TelAt (w : World) (tb : Nat) (fl : List Int) (v : Value) : Prop where
  fields : ∀ i, i < 9 → w.cell? ⟨tb, i, none⟩ = some (.int .i64 (fl.getD i 0))
  lets : w.cell? ⟨tb, 9, none⟩ = some v
theorem TelAt.lt {w : World} {tb : Nat} {fl : List Int} {v : Value} (h : TelAt w tb fl v) : tb < w.heap.size := World.block_lt_of_cell? w _ h.lets
theorem TelAt.below {w w' : World} {tb : Nat} {fl : List Int} {v : Value} (h : TelAt w tb fl v) (hb : Below w.heap.size w w') : TelAt w' tb fl v :=
  ⟨fun i hi => by rw [hb.cell (p := ⟨tb, i, none⟩) h.lt]; exact h.fields i hi, by rw [hb.cell (p := ⟨tb, 9, none⟩) h.lt]; exact h.lets⟩
/-- A list of numbers at a slice. -/
def IntAt (w : World) (a : Option Addr) (l : List Int) : Prop := ∀ j, j < l.length → ∃ g, a = some ⟨g, 0, none⟩ ∧ w.cell? ⟨g, j, none⟩ = some (.int .i64 (l.getD j 0))
theorem IntAt.below {w w' : World} {a : Option Addr} {l : List Int} (h : IntAt w a l) (hb : Below w.heap.size w w') : IntAt w' a l := fun j hj => by
  obtain ⟨g, e, c⟩ := h j hj
  exact ⟨g, e, by rw [hb.cell (p := ⟨g, j, none⟩) (World.block_lt_of_cell? w _ c)]; exact c⟩

end Go.Proofs.YtfkdailfcmnjlaaGreatDoor

namespace Go.Proofs.YtfkdailfcmnjlaaGreatDoor
open Go Go.RowKit
set_option maxRecDepth 100000
attribute [local go_sem ↓] Go.wp_at_zero Go.wp_at_succ

/-- A part's cells. -/
structure CellsC (w : World) (b : Nat) (k : Nat) (pl : Int) (n : Int) (nm : List UInt8) (u : Value) (l : Int) : Prop where
  c0 : w.cell? ⟨b, 0, none⟩ = some (.int .i64 k)
  c1 : w.cell? ⟨b, 1, none⟩ = some (.int .i64 pl)
  c2 : w.cell? ⟨b, 2, none⟩ = some (.int .i64 n)
  c3 : w.cell? ⟨b, 3, none⟩ = some (S nm)
  c4 : w.cell? ⟨b, 4, none⟩ = some u
  c5 : w.cell? ⟨b, 5, none⟩ = some (.int .i64 l)
theorem CellsC.below {w w' : World} {b k : Nat} {pl n l : Int} {nm : List UInt8} {u : Value} (h : CellsC w b k pl n nm u l) (hb : Below w.heap.size w w') : CellsC w' b k pl n nm u l := by
  have hl : b < w.heap.size := World.block_lt_of_cell? w _ h.c0
  have e : ∀ j, w'.cell? ⟨b, j, none⟩ = w.cell? ⟨b, j, none⟩ := fun j => hb.cell (p := ⟨b, j, none⟩) hl
  exact ⟨(e 0).trans h.c0, (e 1).trans h.c1, (e 2).trans h.c2, (e 3).trans h.c3, (e 4).trans h.c4, (e 5).trans h.c5⟩
/-- The list of the parts under a part. -/
def UnderG (w : World) (u : Value) (n : Nat) (bl : Nat → Nat) : Prop := ∃ a cap, u = .slice a n cap ∧ ∀ j, j < n → ∃ g, a = some ⟨g, 0, none⟩ ∧ w.cell? ⟨g, j, none⟩ = some (.pointer (some ⟨bl j, 0, none⟩))
theorem UnderG.below {w w' : World} {u : Value} {n : Nat} {bl : Nat → Nat} (h : UnderG w u n bl) (hb : Below w.heap.size w w') : UnderG w' u n bl := by
  obtain ⟨a, cap, e, h⟩ := h
  refine ⟨a, cap, e, fun j hj => ?_⟩
  obtain ⟨g, e, c⟩ := h j hj
  exact ⟨g, e, by rw [hb.cell (p := ⟨g, j, none⟩) (World.block_lt_of_cell? w _ c)]; exact c⟩
/-- A tree lies at a block. -/
def TrAt : Nat → World → Nat → Tr → Prop
  | 0, _, _, _ => False
  | d + 1, w, b, t => ∃ (pl : Int) (nm : List UInt8) (u : Value) (bl : Nat → Nat), CellsC w b t.k pl t.n nm u t.l ∧ UnderG w u t.kids.length bl ∧ ∀ j, j < t.kids.length → TrAt d w (bl j) (t.kid j)
theorem TrAt.below {d : Nat} : ∀ {w w' : World} {b : Nat} {t : Tr}, TrAt d w b t → Below w.heap.size w w' → TrAt d w' b t := by
  induction d with
  | zero => intro w w' b t h; exact h.elim
  | succ d ih =>
    intro w w' b t h hb
    obtain ⟨pl, nm, u, bl, h1, h2, h3⟩ := h
    exact ⟨pl, nm, u, bl, h1.below hb, h2.below hb, fun j hj => ih (h3 j hj) hb⟩
end Go.Proofs.YtfkdailfcmnjlaaGreatDoor
