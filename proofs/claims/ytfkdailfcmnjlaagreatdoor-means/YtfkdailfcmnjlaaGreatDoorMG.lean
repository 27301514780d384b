/-
  The program's plain form of a policy is the plain function's.
-/
import Derived.Test.YtfkdailfcmnjlaaGreatDoorMD
import Derived.Test.YtfkdailfcmnjlaaGreatDoorLays2
import Derived.Lib.LaidTab
import Derived.Lib.AppendIntMem
import Derived.Deep.RegionHeld3
import Derived.Shelf.Strings.Builder1
set_option linter.unusedVariables false
set_option linter.unusedSimpArgs false
namespace Go.Proofs.YtfkdailfcmnjlaaGreatDoor

/-- A number's digits; the first number bounds them. -/
def tensF : Nat → Nat → List UInt8
  | 0, _ => []
  | f + 1, n => if n < 10 then [UInt8.ofNat (48 + n)] else tensF f (n / 10) ++ [UInt8.ofNat (48 + n % 10)]
def tensL (n : Nat) : List UInt8 := tensF 20 n
theorem tensF_len (f n : Nat) : (tensF f n).length ≤ f := by
  induction f generalizing n with
  | zero => simp [tensF]
  | succ f ih =>
    rw [tensF]; split
    · simp
    · have := ih (n / 10); simp; omega
theorem tensF_more (f g n : Nat) (hf : n < 10 ^ f) (hg : n < 10 ^ g) (h1 : 0 < f) (h2 : 0 < g) : tensF f n = tensF g n := by
  induction f generalizing g n with
  | zero => omega
  | succ f ih =>
    obtain ⟨g, rfl⟩ : ∃ g', g = g' + 1 := ⟨g - 1, by omega⟩
    rw [tensF, tensF]
    by_cases h : n < 10
    · rw [if_pos h, if_pos h]
    · rw [if_neg h, if_neg h]
      have hf0 : 0 < f := by
        rcases Nat.eq_zero_or_pos f with rfl | h0
        · simp at hf; omega
        · exact h0
      have hg0 : 0 < g := by
        rcases Nat.eq_zero_or_pos g with rfl | h0
        · simp at hg; omega
        · exact h0
      rw [Nat.pow_succ] at hf hg
      rw [ih g (n / 10) (by omega) (by omega) hf0 hg0]

def wsNot : List UInt8 := [40, 110, 111, 116, 32]
def wsIf : List UInt8 := [40, 105, 102, 32]
def wsThen : List UInt8 := [32, 116, 104, 101, 110, 32]
def wsElse : List UInt8 := [32, 101, 108, 115, 101, 32]
def wsLet : List UInt8 := [108, 101, 116, 32]
def wsEq : List UInt8 := [32, 61, 32]
def wsAllow : List UInt8 := [97, 108, 108, 111, 119, 32, 105, 102, 32]
def wsDeny : List UInt8 := [100, 101, 110, 121, 32, 105, 102, 32]
/-- A part over some, as it is printed. -/
def overL (text : List UInt8) : List (List UInt8) → List UInt8
  | [] => text
  | [a] => wsNot ++ a ++ [41]
  | [a, b] => [40] ++ a ++ [32] ++ text ++ [32] ++ b ++ [41]
  | a :: b :: c :: _ => wsIf ++ a ++ wsThen ++ b ++ wsElse ++ c ++ [41]
/-- A part as it is printed. -/
def plainF : Nat → List Pt → Nat → List UInt8
  | 0, _, _ => []
  | f + 1, L, i => if (L.getD i noPt).tok.k = 110 then tensL (decVal (L.getD i noPt).tok.text) else overL (L.getD i noPt).tok.text ((L.getD i noPt).subs.map (plainF f L))
def headL (x : Itm) : List UInt8 := if x.name = [] then (if x.allow then wsAllow else wsDeny) else wsLet ++ x.name ++ wsEq
def itemL (L : List Pt) (x : Itm) : List UInt8 := headL x ++ plainF (x.top + 1) L x.top ++ [59, 10]
/-- A policy as it is printed. -/
def printL (L : List Pt) (xs : List Itm) : List UInt8 := xs.flatMap (itemL L)

theorem forest_len {T : Nat → Nat → Prop} {F : Nat → List UInt8} {c : Nat} (hT : ∀ lo j, T lo j → lo ≤ j ∧ (F j).length ≤ c * (j + 1 - lo)) (js : List Nat) : ∀ {lo hi}, Forest T lo js hi → (js.map F).flatten.length ≤ c * (hi - lo) := by
  induction js with
  | nil => intro lo hi _; simp
  | cons j js ih =>
    intro lo hi h
    obtain ⟨h1, h2⟩ := hT _ _ h.1
    have h3 := ih h.2
    have h4 := forest_le (fun lo j hj => (hT lo j hj).1) js h.2
    have e : c * (hi - lo) = c * (j + 1 - lo) + c * (hi - (j + 1)) := by rw [← Nat.mul_add]; congr 1; omega
    simp only [List.map_cons, List.flatten_cons, List.length_append]
    rw [e]; omega
theorem over_len (text : List UInt8) (ss : List (List UInt8)) : (overL text ss).length ≤ text.length + ss.flatten.length + 17 := by
  match ss with
  | [] => simp [overL]
  | [a] => simp [overL, wsNot]; omega
  | [a, b] => simp [overL]; omega
  | a :: b :: c :: r => simp [overL, wsIf, wsThen, wsElse]; omega
theorem TreeF.plain_len {f : Nat} : ∀ {L : List Pt} {lo i : Nat}, (∀ k, k < L.length → (L.getD k noPt).tok.text.length ≤ 1000) → TreeF f L lo i → (plainF f L i).length ≤ 1100 * (i + 1 - lo) := by
  induction f with
  | zero => intro L lo i _ h; exact h.elim
  | succ f ih =>
    intro L lo i hl h
    have hle := h.le
    have h1 := forest_len (T := TreeF f L) (F := plainF f L) (c := 1100) (fun lo j hj => ⟨hj.le, ih hl hj⟩) _ h.2.2
    have h2 := over_len (L.getD i noPt).tok.text ((L.getD i noPt).subs.map (plainF f L))
    have h3 := hl i h.1
    have h4 := tensF_len 20 (decVal (L.getD i noPt).tok.text)
    have e : 1100 * (i + 1 - lo) = 1100 * (i - lo) + 1100 := by omega
    rw [plainF, e]
    split
    · unfold tensL; omega
    · omega
theorem plainF_fit {f g : Nat} : ∀ {L : List Pt} {lo i : Nat}, TreeF f L lo i → f ≤ g → plainF g L i = plainF f L i := by
  induction f generalizing g with
  | zero => intro L lo i h; exact h.elim
  | succ f ih =>
    intro L lo i h hg
    obtain ⟨g, rfl⟩ : ∃ g', g = g' + 1 := ⟨g - 1, by omega⟩
    rw [plainF, plainF]
    split
    · rfl
    · congr 1
      refine List.map_congr_left fun j hj => ?_
      obtain ⟨lo', hT⟩ := forest_mem _ h.2.2 j hj
      exact ih hT (by omega)
end Go.Proofs.YtfkdailfcmnjlaaGreatDoor

namespace Go.Proofs.YtfkdailfcmnjlaaGreatDoor
open Go Go.RowKit
set_option maxRecDepth 100000
attribute [local go_sem ↓] Go.wp_at_zero Go.wp_at_succ
variable {bs : Nat}

theorem ba_cat (a b : List UInt8) : (ByteArray.mk a.toArray ++ ByteArray.mk b.toArray) = ByteArray.mk (a ++ b).toArray := by
  apply ByteArray.ext
  simp
set_option maxHeartbeats 2000000 in
theorem head_any {t u : Tok} {b : Nat} {n : Int} {x : Itm} (hx : ItOf x t u) (hn : x.name.length ≤ 1000) (w : World) (hS : Sp w) :
    Calls Tryz.prog 66 #[itW t u n b] w fun e w' => e = .returned (S (headL x)) ∧ Below w.heap.size w w' := by
  unfold itW
  have hb := (Below.refl w.heap.size w).alloc (Nat.le_refl _) (itObjW t u n (.pointer (some ⟨b, 0, none⟩)))
  have hS2 : Sp (w.alloc (itObjW t u n (.pointer (some ⟨b, 0, none⟩)))) := hS.below hS.pos hb
  have HB : Hid _ := hb
  have HIT : Hid (itObjW t u n (.pointer (some ⟨b, 0, none⟩)) = .cells #[.int .i64 (kindOf t), .int .i64 t.pl, .int .i64 (nmOf t), S (ownOf t), .int .i64 (kindOf u), .int .i64 u.pl, .int .i64 (nmOf u), S (ownOf u), .int .i64 n, .pointer (some ⟨b, 0, none⟩)] 163 (0, 0)) := rfl
  rcases hx with ⟨h1, h2, h3, h4, h5, h6, h7⟩ | ⟨h1, h2, h3, h4⟩
  · have HE : Hid (headL x = wsLet ++ x.name ++ wsEq) := by show _ = _; unfold headL; rw [if_neg h1]
    generalize headL x = r at *
    unfold itObjW at HB
    rw [h2, h6] at HB
    rw [h2, h6]
    generalize x.name = nm at *
    clear hb hS2 hS h1 h2 h3 h4 h5 h6 h7 HIT
    generalize t.pl = q1 at *
    generalize nmOf t = q2 at *
    generalize ownOf t = q3 at *
    generalize kindOf u = q4 at *
    generalize u.pl = q5 at *
    generalize nmOf u = q6 at *
    go_enter Tryz.func66, Tryz.ntmps66
    go_wp2_with fail
    go_ret
    refine ⟨?_, HB.out⟩
    rw [HE.out]
    have e1 := ba_cat wsLet nm
    have e2 := ba_cat (wsLet ++ nm) wsEq
    exact congrArg (fun s => Ending.returned (Value.string s)) (by rw [← e2, ← e1]; rfl)
  · have hk : kindOf t = 12 ∨ kindOf t = 13 := by rw [h2]; split; exact .inl rfl; exact .inr rfl
    have HE : Hid (headL x = spell.getD (kindOf t) [] ++ [32, 105, 102, 32]) := by
      show _ = _; unfold headL; rw [if_pos h1, h2]; split <;> rfl
    have W1 := spelling_any (kindOf t) _ hS2 (by omega)
    have hk11 : ((kindOf t : Int) == (11 : Int)) = false := by
      have : ¬ ((kindOf t : Int) = 11) := by omega
      simpa using this
    have hsl : (spell.getD (kindOf t) []).length ≤ 10 := by rcases hk with hk | hk <;> rw [hk] <;> decide
    rw [HIT.out] at W1 HB
    generalize headL x = r at *
    clear hb hS2 hS h1 h2 h3 h4 HIT
    generalize spell.getD (kindOf t) [] = sp at *
    generalize kindOf t = kd at *
    generalize t.pl = q1 at *
    generalize nmOf t = q2 at *
    generalize ownOf t = q3 at *
    generalize kindOf u = q4 at *
    generalize u.pl = q5 at *
    generalize nmOf u = q6 at *
    generalize ownOf u = q7 at *
    go_enter Tryz.func66, Tryz.ntmps66
    go_wp2_with fail
    refine W1.mono ?_
    rintro e w' ⟨rfl, rfl⟩
    clear W1
    go_wp2_with fail
    go_ret
    refine ⟨?_, HB.out⟩
    rw [HE.out]
    exact congrArg (fun s => Ending.returned (Value.string s)) (ba_cat sp [32, 105, 102, 32])
end Go.Proofs.YtfkdailfcmnjlaaGreatDoor

namespace Go.Proofs.YtfkdailfcmnjlaaGreatDoor
open Go Go.RowKit
set_option maxRecDepth 100000
attribute [local go_sem ↓] Go.wp_at_zero Go.wp_at_succ
variable {bs : Nat}

theorem dec_tens (f n : Nat) (h : n < 10 ^ f) (h0 : 0 < f) : Lib.decDigits n = tensF f n := by
  induction f generalizing n with
  | zero => omega
  | succ f ih =>
    rw [Lib.decDigits, tensF]
    by_cases hn : n < 10
    · rw [dif_pos hn, if_pos hn]
    · rw [dif_neg hn, if_neg hn]
      have hf0 : 0 < f := by
        rcases Nat.eq_zero_or_pos f with rfl | h1
        · simp at h; omega
        · exact h1
      rw [Nat.pow_succ] at h
      rw [ih (n / 10) (by omega) hf0]
/-- The library's table of powers. -/
def Tb (w : World) : Prop := Lib.TabIs Tryz.prog w "internal/strconv.uint64pow10" .u64 Lib.pow10Tab
theorem gPow : Tryz.prog.globalNamed "internal/strconv.uint64pow10" = some 2 := by kernel_rfl
theorem Tb.below {w w' : World} (h : Tb w) (hb : Below w.heap.size w w') : Tb w' := by
  unfold Tb Lib.TabIs World.var? at *
  rw [gPow] at *
  simp only [Option.bind_some] at *
  have hlt : 2 < w.heap.size := by
    rcases Nat.lt_or_ge 2 w.heap.size with h1 | h1
    · exact h1
    · rw [Array.getElem?_eq_none h1] at h; simp at h
  rw [hb.block _ hlt]; exact h
theorem formatInt_any (n : Nat) (h : n ≤ 9223372036854775807) (w : World) (hT : Tb w) : Calls Tryz.prog 120 #[.int .i64 n, .int .i64 10] w fun e w' => e = .returned (S (tensL n)) ∧ Below w.heap.size w w' := by
  refine (Any.strconv_FormatInt_10 laysM173 (n : Int) (by omega) (by omega) w hT).mono ?_
  rintro e w' ⟨rfl, k, os, rfl⟩
  refine ⟨?_, Lib.below_grow _ _ (Nat.le_refl _) _ _⟩
  have e1 : Lib.itoa (n : Int) = tensL n := by
    unfold Lib.itoa tensL
    rw [if_neg (by omega), Int.toNat_natCast]
    exact dec_tens 20 n (by have : (10 : Nat) ^ 20 = 100000000000000000000 := by decide
                            omega) (by decide)
  rw [e1]
end Go.Proofs.YtfkdailfcmnjlaaGreatDoor

namespace Go.Proofs.YtfkdailfcmnjlaaGreatDoor
open Go Go.RowKit
set_option maxRecDepth 100000
attribute [local go_sem ↓] Go.wp_at_zero Go.wp_at_succ
variable {bs : Nat}

/-- What a condition's plain form needs of its words. -/
structure PlainOK (L : List Pt) : Prop where
  tokw : ∀ k, k < L.length → TokW (L.getD k noPt).tok
  short : ∀ k, k < L.length → (L.getD k noPt).tok.text.length ≤ 1000
  num : ∀ k, k < L.length → (L.getD k noPt).tok.k = 110 → decVal (L.getD k noPt).tok.text ≤ 9223372036854775807
  few : L.length ≤ 5000

set_option maxHeartbeats 4000000 in
theorem pplain_not {L : List Pt} {N : Tok → Int → Prop} {i b : Nat} {w : World} (hC : CondS bs L N w i b) (hk : kindOf (L.getD i noPt).tok = 19) (hl : (L.getD i noPt).subs.length = 1) (r : List UInt8) (hr : r.length ≤ 100000000)
    (HI : ∀ (bj : Nat) (w1 : World), CondS bs L N w1 ((L.getD i noPt).subs.getD 0 0) bj → Below w.heap.size w w1 → Calls Tryz.prog 67 #[.pointer (some ⟨bj, 0, none⟩)] w1 fun e w' => e = .returned (S r) ∧ Below w1.heap.size w1 w') :
    Calls Tryz.prog 67 #[.pointer (some ⟨b, 0, none⟩)] w fun e w' => e = .returned (S (overL [] [r])) ∧ Below w.heap.size w w' := by
  obtain ⟨u, n, bl, hi, hlo, hn, hb, hu, hs⟩ := hC.inv
  obtain ⟨⟨c0, c1, c2, c3, c4, c5⟩, cf⟩ := cd_cells hb
  obtain ⟨au, rfl, ha⟩ := hu.slice
  obtain ⟨g, rfl, hg⟩ := ha 0 (by omega)
  have hcell := under_cell hg 0 (by omega)
  have W1 := HI (bl 0) w (hs 0 (by omega)) (Below.refl _ _)
  rw [hk] at c0
  rw [hl] at c4
  have HE : Hid (overL [] [r] = wsNot ++ r ++ [41]) := rfl
  generalize overL [] [r] = q at *
  clear hC hb hu hs ha hg hn HI
  go_enter Tryz.func67, Tryz.ntmps67
  go_wp2_with fail
  refine W1.mono ?_
  rintro e w1 ⟨rfl, hb1⟩
  clear W1
  go_wp2_with fail
  go_ret
  refine ⟨?_, hb1⟩
  rw [HE.out]
  have e1 := ba_cat wsNot r
  have e2 := ba_cat (wsNot ++ r) [41]
  exact congrArg (fun s => Ending.returned (Value.string s)) (by rw [← e2, ← e1]; rfl)

set_option maxHeartbeats 4000000 in
theorem pplain_num {L : List Pt} {N : Tok → Int → Prop} {i b : Nat} {w : World} (hC : CondS bs L N w i b) (hk : (L.getD i noPt).tok.k = 110) (hn : decVal (L.getD i noPt).tok.text ≤ 9223372036854775807) (hT : Tb w) :
    Calls Tryz.prog 67 #[.pointer (some ⟨b, 0, none⟩)] w fun e w' => e = .returned (S (tensL (decVal (L.getD i noPt).tok.text))) ∧ Below w.heap.size w w' := by
  obtain ⟨u, n, bl, hi, hlo, _, hb, hu, hs⟩ := hC.inv
  obtain ⟨⟨c0, c1, c2, c3, c4, c5⟩, cf⟩ := cd_cells hb
  have e1 : kindOf (L.getD i noPt).tok = 1 := by unfold kindOf; rw [if_pos hk]
  have e2 : nmOf (L.getD i noPt).tok = decVal (L.getD i noPt).tok.text := by unfold nmOf; rw [if_pos hk]
  rw [e1] at c0
  rw [e2] at c2
  have W1 := formatInt_any (decVal (L.getD i noPt).tok.text) hn w hT
  clear hC hb hu hs hk e1 e2 hT
  generalize tensL (decVal (L.getD i noPt).tok.text) = q at *
  generalize decVal (L.getD i noPt).tok.text = m at *
  go_enter Tryz.func67, Tryz.ntmps67
  go_wp2_with fail
  refine W1.mono ?_
  rintro e w1 ⟨rfl, hb1⟩
  clear W1
  go_wp2_with fail
  go_ret
  exact ⟨rfl, hb1⟩
set_option maxHeartbeats 4000000 in
theorem pplain_own {L : List Pt} {N : Tok → Int → Prop} {i b : Nat} {w : World} (hC : CondS bs L N w i b) (hk : (L.getD i noPt).tok.k = 111) :
    Calls Tryz.prog 67 #[.pointer (some ⟨b, 0, none⟩)] w fun e w' => e = .returned (S (L.getD i noPt).tok.text) ∧ Below w.heap.size w w' := by
  obtain ⟨u, n, bl, hi, hlo, _, hb, hu, hs⟩ := hC.inv
  obtain ⟨⟨c0, c1, c2, c3, c4, c5⟩, cf⟩ := cd_cells hb
  have e1 := kind_two.2 hk
  have e2 : ownOf (L.getD i noPt).tok = (L.getD i noPt).tok.text := by unfold ownOf; rw [if_pos hk]
  rw [e1] at c0
  rw [e2] at c3
  clear hC hb hu hs hk e1 e2
  generalize (L.getD i noPt).tok.text = q at *
  go_enter Tryz.func67, Tryz.ntmps67
  go_wp2_with fail
  go_ret
  exact ⟨rfl, Below.refl _ _⟩
set_option maxHeartbeats 4000000 in
theorem pplain_word {L : List Pt} {N : Tok → Int → Prop} {i b : Nat} {w : World} (hC : CondS bs L N w i b) (hs0 : (L.getD i noPt).subs = []) (hk : 20 ≤ kindOf (L.getD i noPt).tok ∧ kindOf (L.getD i noPt).tok ≤ 35) (hS : Sp w) :
    Calls Tryz.prog 67 #[.pointer (some ⟨b, 0, none⟩)] w fun e w' => e = .returned (S (spell.getD (kindOf (L.getD i noPt).tok) [])) ∧ Below w.heap.size w w' := by
  obtain ⟨u, n, bl, hi, hlo, _, hb, hu, hs⟩ := hC.inv
  obtain ⟨⟨c0, c1, c2, c3, c4, c5⟩, cf⟩ := cd_cells hb
  have hu0 : u = .slice none 0 0 := by
    rw [hs0] at hu; rcases hu with hu | hu
    · exact hu.2
    · simp at hu
  subst hu0
  have W1 := spelling_any (kindOf (L.getD i noPt).tok) w hS (by omega)
  clear hC hb hu hs hs0 hS
  generalize spell.getD (kindOf (L.getD i noPt).tok) [] = q at *
  generalize kindOf (L.getD i noPt).tok = kd at *
  have n1 : ((kd : Int) == (1 : Int)) = false := by have : ¬ ((kd : Int) = 1) := by omega
                                                    simpa using this
  have n2 : ((kd : Int) == (2 : Int)) = false := by have : ¬ ((kd : Int) = 2) := by omega
                                                    simpa using this
  have n3 : ((kd : Int) == (19 : Int)) = false := by have : ¬ ((kd : Int) = 19) := by omega
                                                     simpa using this
  have n4 : ((kd : Int) == (14 : Int)) = false := by have : ¬ ((kd : Int) = 14) := by omega
                                                     simpa using this
  go_enter Tryz.func67, Tryz.ntmps67
  go_wp2_with fail
  refine W1.mono ?_
  rintro e w1 ⟨rfl, rfl⟩
  clear W1
  go_wp2_with fail
  go_ret
  exact ⟨rfl, Below.refl _ _⟩
end Go.Proofs.YtfkdailfcmnjlaaGreatDoor

namespace Go.Proofs.YtfkdailfcmnjlaaGreatDoor
open Go Go.RowKit
set_option maxRecDepth 100000
attribute [local go_sem ↓] Go.wp_at_zero Go.wp_at_succ
variable {bs : Nat}

set_option maxHeartbeats 1000000 in
theorem pplain_two {L : List Pt} {N : Tok → Int → Prop} {i b : Nat} {w : World} (hC : CondS bs L N w i b) (hk : kindOf (L.getD i noPt).tok ≠ 1 ∧ kindOf (L.getD i noPt).tok ≠ 2 ∧ kindOf (L.getD i noPt).tok ≠ 19 ∧ kindOf (L.getD i noPt).tok ≠ 14 ∧ kindOf (L.getD i noPt).tok < 36) (hl : (L.getD i noPt).subs.length = 2) (r1 r2 : List UInt8) (hr1 : r1.length ≤ 100000000) (hr2 : r2.length ≤ 100000000) (hS : Sp w) (hsp : (spell.getD (kindOf (L.getD i noPt).tok) []).length ≤ 100)
    (HI1 : ∀ (bj : Nat) (w1 : World), CondS bs L N w1 ((L.getD i noPt).subs.getD 0 0) bj → Below w.heap.size w w1 → Calls Tryz.prog 67 #[.pointer (some ⟨bj, 0, none⟩)] w1 fun e w' => e = .returned (S r1) ∧ Below w1.heap.size w1 w')
    (HI2 : ∀ (bj : Nat) (w1 : World), CondS bs L N w1 ((L.getD i noPt).subs.getD 1 0) bj → Below w.heap.size w w1 → Calls Tryz.prog 67 #[.pointer (some ⟨bj, 0, none⟩)] w1 fun e w' => e = .returned (S r2) ∧ Below w1.heap.size w1 w') :
    Calls Tryz.prog 67 #[.pointer (some ⟨b, 0, none⟩)] w fun e w' => e = .returned (S (overL (spell.getD (kindOf (L.getD i noPt).tok) []) [r1, r2])) ∧ Below w.heap.size w w' := by
  obtain ⟨u, n, bl, hi, hlo, hn, hb, hu, hs⟩ := hC.inv
  obtain ⟨⟨c0, c1, c2, c3, c4, c5⟩, cf⟩ := cd_cells hb
  obtain ⟨au, rfl, ha⟩ := hu.slice
  obtain ⟨g, rfl, hg⟩ := ha 0 (by omega)
  have d0 := under_cell hg 0 (by omega)
  have d1 := under_cell hg 1 (by omega)
  rw [hl] at c4
  have HE : Hid (overL (spell.getD (kindOf (L.getD i noPt).tok) []) [r1, r2] = [40] ++ r1 ++ [32] ++ spell.getD (kindOf (L.getD i noPt).tok) [] ++ [32] ++ r2 ++ [41]) := rfl
  generalize overL (spell.getD (kindOf (L.getD i noPt).tok) []) [r1, r2] = q at *
  have W1 := fun w1 (h : Below w.heap.size w w1) => HI1 (bl 0) w1 ((hs 0 (by omega)).grow h) h
  have W2 := fun w1 (h : Below w.heap.size w w1) => HI2 (bl 1) w1 ((hs 1 (by omega)).grow h) h
  have W3 := fun w1 (h : Below w.heap.size w w1) => spelling_any (kindOf (L.getD i noPt).tok) w1 (hS.below hS.pos h) hk.2.2.2.2
  clear hC hb hu hs ha hg hn HI1 HI2 hS
  obtain ⟨k1, k2, k3, k4, k5⟩ := hk
  generalize spell.getD (kindOf (L.getD i noPt).tok) [] = sp at *
  generalize kindOf (L.getD i noPt).tok = kd at *
  have n1 : ((kd : Int) == (1 : Int)) = false := by have : ¬ ((kd : Int) = 1) := by omega
                                                    simpa using this
  have n2 : ((kd : Int) == (2 : Int)) = false := by have : ¬ ((kd : Int) = 2) := by omega
                                                    simpa using this
  have n3 : ((kd : Int) == (19 : Int)) = false := by have : ¬ ((kd : Int) = 19) := by omega
                                                     simpa using this
  have n4 : ((kd : Int) == (14 : Int)) = false := by have : ¬ ((kd : Int) = 14) := by omega
                                                     simpa using this
  go_enter Tryz.func67, Tryz.ntmps67
  go_wp2_with fail
  have keepF : ∀ w', Below w.heap.size w w' → (w'.cell? ⟨b, 4, none⟩ = some (.slice (some ⟨g, 0, none⟩) 2 2) ∧ w'.cell? ⟨g, 0, none⟩ = some (.pointer (some ⟨bl 0, 0, none⟩)) ∧ w'.cell? ⟨g, 1, none⟩ = some (.pointer (some ⟨bl 1, 0, none⟩)) ∧ w'.cell? ⟨b, 0, none⟩ = some (.int .i64 kd)) := fun w' h => by
    rw [h.cell (p := ⟨b, 4, none⟩) (World.block_lt_of_cell? w _ c4), h.cell (p := ⟨g, 0, none⟩) (World.block_lt_of_cell? w _ d0), h.cell (p := ⟨g, 1, none⟩) (World.block_lt_of_cell? w _ d1), h.cell (p := ⟨b, 0, none⟩) (World.block_lt_of_cell? w _ c0)]
    exact ⟨c4, d0, d1, c0⟩
  have KF : Hid _ := keepF
  clear keepF c1 c2 c3 c5 cf
  have s1 : ¬ 9223372036854775807 < 1 + r1.length := by omega
  have s2 : ¬ 9223372036854775807 < 1 + r1.length + 1 := by omega
  have s3 : ¬ 9223372036854775807 < 1 + r1.length + 1 + sp.length := by omega
  have s4 : ¬ 9223372036854775807 < 1 + r1.length + 1 + sp.length + 1 := by omega
  have s5 : ¬ 9223372036854775807 < 1 + r1.length + 1 + sp.length + 1 + r2.length := by omega
  have s6 : ¬ 9223372036854775807 < 1 + r1.length + 1 + sp.length + 1 + r2.length + 1 := by omega
  go_region_held3 (fun w' => w'.cell? ⟨b, 4, none⟩ = some (.slice (some ⟨g, 0, none⟩) 2 2) ∧ w'.cell? ⟨g, 0, none⟩ = some (.pointer (some ⟨bl 0, 0, none⟩)) ∧ w'.cell? ⟨g, 1, none⟩ = some (.pointer (some ⟨bl 1, 0, none⟩)) ∧ w'.cell? ⟨b, 0, none⟩ = some (.int .i64 kd)) (first | exact KF.out _ hB7 | exact KF.out _ hB5 | go_keep) ((first | (go_at_call 119; refine (W3 _ hB5).mono ?_; rintro e w6 ⟨rfl, hw6⟩; subst hw6) | (go_at_call 67; refine (W2 _ hB5).mono ?_; rintro e w7 ⟨rfl, hb7⟩; have hB7 := hB5.trans (hb7.mono hB5.size)) | (go_at_call 67; refine (W1 _ (Below.refl _ _).drew).mono ?_; rintro e w5 ⟨rfl, hb5⟩; have hB5 : Below w.heap.size w w5 := (Below.refl _ _).drew.trans hb5)))
  all_goals rename_i hHeld
  all_goals clear hHeld
  all_goals go_wp2_with fail
  all_goals go_ret
  all_goals refine ⟨?_, hB7⟩
  all_goals rw [HE.out]
  all_goals have e1 := ba_cat [40] r1
  all_goals have e2 := ba_cat ([40] ++ r1) [32]
  all_goals have e3 := ba_cat ([40] ++ r1 ++ [32]) sp
  all_goals have e4 := ba_cat ([40] ++ r1 ++ [32] ++ sp) [32]
  all_goals have e5 := ba_cat ([40] ++ r1 ++ [32] ++ sp ++ [32]) r2
  all_goals have e6 := ba_cat ([40] ++ r1 ++ [32] ++ sp ++ [32] ++ r2) [41]
  all_goals exact congrArg (fun s => Ending.returned (Value.string s)) (by rw [← e6, ← e5, ← e4, ← e3, ← e2, ← e1])
end Go.Proofs.YtfkdailfcmnjlaaGreatDoor

namespace Go.Proofs.YtfkdailfcmnjlaaGreatDoor
open Go Go.RowKit
set_option maxRecDepth 100000
attribute [local go_sem ↓] Go.wp_at_zero Go.wp_at_succ
variable {bs : Nat}

set_option maxHeartbeats 2000000 in
theorem pplain_if {L : List Pt} {N : Tok → Int → Prop} {i b : Nat} {w : World} (hC : CondS bs L N w i b) (hk : kindOf (L.getD i noPt).tok = 14) (hl : (L.getD i noPt).subs.length = 3) (tx r1 r2 r3 : List UInt8) (hr1 : r1.length ≤ 100000000) (hr2 : r2.length ≤ 100000000) (hr3 : r3.length ≤ 100000000)
    (HI1 : ∀ (bj : Nat) (w1 : World), CondS bs L N w1 ((L.getD i noPt).subs.getD 0 0) bj → Below w.heap.size w w1 → Calls Tryz.prog 67 #[.pointer (some ⟨bj, 0, none⟩)] w1 fun e w' => e = .returned (S r1) ∧ Below w1.heap.size w1 w')
    (HI2 : ∀ (bj : Nat) (w1 : World), CondS bs L N w1 ((L.getD i noPt).subs.getD 1 0) bj → Below w.heap.size w w1 → Calls Tryz.prog 67 #[.pointer (some ⟨bj, 0, none⟩)] w1 fun e w' => e = .returned (S r2) ∧ Below w1.heap.size w1 w')
    (HI3 : ∀ (bj : Nat) (w1 : World), CondS bs L N w1 ((L.getD i noPt).subs.getD 2 0) bj → Below w.heap.size w w1 → Calls Tryz.prog 67 #[.pointer (some ⟨bj, 0, none⟩)] w1 fun e w' => e = .returned (S r3) ∧ Below w1.heap.size w1 w') :
    Calls Tryz.prog 67 #[.pointer (some ⟨b, 0, none⟩)] w fun e w' => e = .returned (S (overL tx [r1, r2, r3])) ∧ Below w.heap.size w w' := by
  obtain ⟨u, n, bl, hi, hlo, hn, hb, hu, hs⟩ := hC.inv
  obtain ⟨⟨c0, c1, c2, c3, c4, c5⟩, cf⟩ := cd_cells hb
  obtain ⟨au, rfl, ha⟩ := hu.slice
  obtain ⟨g, rfl, hg⟩ := ha 0 (by omega)
  have d0 := under_cell hg 0 (by omega)
  have d1 := under_cell hg 1 (by omega)
  have d2 := under_cell hg 2 (by omega)
  rw [hl] at c4
  rw [hk] at c0
  have HE : Hid (overL tx [r1, r2, r3] = wsIf ++ r1 ++ wsThen ++ r2 ++ wsElse ++ r3 ++ [41]) := rfl
  generalize overL tx [r1, r2, r3] = q at *
  have W1 := fun w1 (h : Below w.heap.size w w1) => HI1 (bl 0) w1 ((hs 0 (by omega)).grow h) h
  have W2 := fun w1 (h : Below w.heap.size w w1) => HI2 (bl 1) w1 ((hs 1 (by omega)).grow h) h
  have W3 := fun w1 (h : Below w.heap.size w w1) => HI3 (bl 2) w1 ((hs 2 (by omega)).grow h) h
  clear hC hb hu hs ha hg hn HI1 HI2 HI3
  have keepF : ∀ w', Below w.heap.size w w' → (w'.cell? ⟨b, 4, none⟩ = some (.slice (some ⟨g, 0, none⟩) 3 3) ∧ w'.cell? ⟨g, 0, none⟩ = some (.pointer (some ⟨bl 0, 0, none⟩)) ∧ w'.cell? ⟨g, 1, none⟩ = some (.pointer (some ⟨bl 1, 0, none⟩)) ∧ w'.cell? ⟨g, 2, none⟩ = some (.pointer (some ⟨bl 2, 0, none⟩))) := fun w' h => by
    rw [h.cell (p := ⟨b, 4, none⟩) (World.block_lt_of_cell? w _ c4), h.cell (p := ⟨g, 0, none⟩) (World.block_lt_of_cell? w _ d0), h.cell (p := ⟨g, 1, none⟩) (World.block_lt_of_cell? w _ d1), h.cell (p := ⟨g, 2, none⟩) (World.block_lt_of_cell? w _ d2)]
    exact ⟨c4, d0, d1, d2⟩
  have KF : Hid _ := keepF
  clear keepF c1 c2 c3 c5 cf
  have s1 : ¬ 9223372036854775807 < 4 + r1.length := by omega
  have s2 : ¬ 9223372036854775807 < 4 + r1.length + 6 := by omega
  have s3 : ¬ 9223372036854775807 < 4 + r1.length + 6 + r2.length := by omega
  have s4 : ¬ 9223372036854775807 < 4 + r1.length + 6 + r2.length + 6 := by omega
  have s5 : ¬ 9223372036854775807 < 4 + r1.length + 6 + r2.length + 6 + r3.length := by omega
  have s6 : ¬ 9223372036854775807 < 4 + r1.length + 6 + r2.length + 6 + r3.length + 1 := by omega
  go_enter Tryz.func67, Tryz.ntmps67
  go_wp2_with fail
  go_region_held3 (fun w' => w'.cell? ⟨b, 4, none⟩ = some (.slice (some ⟨g, 0, none⟩) 3 3) ∧ w'.cell? ⟨g, 0, none⟩ = some (.pointer (some ⟨bl 0, 0, none⟩)) ∧ w'.cell? ⟨g, 1, none⟩ = some (.pointer (some ⟨bl 1, 0, none⟩)) ∧ w'.cell? ⟨g, 2, none⟩ = some (.pointer (some ⟨bl 2, 0, none⟩))) (first | exact KF.out _ hB9 | exact KF.out _ hB7 | exact KF.out _ hB5 | go_keep) ((first | (go_at_call 67; refine (W3 _ hB7).mono ?_; rintro e w9 ⟨rfl, hb9⟩; have hB9 := hB7.trans (hb9.mono hB7.size)) | (go_at_call 67; refine (W2 _ hB5).mono ?_; rintro e w7 ⟨rfl, hb7⟩; have hB7 := hB5.trans (hb7.mono hB5.size)) | (go_at_call 67; refine (W1 _ (Below.refl _ _).drew).mono ?_; rintro e w5 ⟨rfl, hb5⟩; have hB5 : Below w.heap.size w w5 := (Below.refl _ _).drew.trans hb5)))
  all_goals rename_i hHeld
  all_goals clear hHeld
  all_goals go_wp2_with fail
  all_goals go_ret
  all_goals refine ⟨?_, hB9⟩
  all_goals rw [HE.out]
  all_goals have e1 := ba_cat wsIf r1
  all_goals have e2 := ba_cat (wsIf ++ r1) wsThen
  all_goals have e3 := ba_cat (wsIf ++ r1 ++ wsThen) r2
  all_goals have e4 := ba_cat (wsIf ++ r1 ++ wsThen ++ r2) wsElse
  all_goals have e5 := ba_cat (wsIf ++ r1 ++ wsThen ++ r2 ++ wsElse) r3
  all_goals have e6 := ba_cat (wsIf ++ r1 ++ wsThen ++ r2 ++ wsElse ++ r3) [41]
  all_goals exact congrArg (fun s => Ending.returned (Value.string s)) (by rw [← e6, ← e5, ← e4, ← e3, ← e2, ← e1]; rfl)
end Go.Proofs.YtfkdailfcmnjlaaGreatDoor

namespace Go.Proofs.YtfkdailfcmnjlaaGreatDoor
open Go Go.RowKit
set_option maxRecDepth 100000
variable {bs : Nat}

theorem spell_text : ∀ x ∈ spell.drop 3, spell.getD (kn x) [] = x ∧ kn x < 36 ∧ x.length ≤ 100 := by decide
theorem join_kinds : ∀ x ∈ ([[43], [45], [60], [60, 61], [61], [111, 114], [97, 110, 100]] : List (List UInt8)), kn x ≠ 1 ∧ kn x ≠ 2 ∧ kn x ≠ 19 ∧ kn x ≠ 14 ∧ kn x < 36 ∧ (spell.getD (kn x) []).length ≤ 100 ∧ spell.getD (kn x) [] = x := by decide
theorem list_two {α : Type} {F : Nat → α} {l : List Nat} (h : l.length = 2) : l.map F = [F (l.getD 0 0), F (l.getD 1 0)] := by
  match l, h with
  | [a, b], _ => rfl
theorem list_three {α : Type} {F : Nat → α} {l : List Nat} (h : l.length = 3) : l.map F = [F (l.getD 0 0), F (l.getD 1 0), F (l.getD 2 0)] := by
  match l, h with
  | [a, b, c], _ => rfl
theorem list_one {α : Type} {F : Nat → α} {l : List Nat} (h : l.length = 1) : l.map F = [F (l.getD 0 0)] := by
  match l, h with
  | [a], _ => rfl
theorem getD_in {l : List Nat} {j : Nat} (h : j < l.length) : l.getD j 0 ∈ l := by rw [List.getD_eq_getElem?_getD, List.getElem?_eq_getElem h]; exact List.getElem_mem h

theorem pplain_any {L : List Pt} {N : Tok → Int → Prop} (hL : PlainOK L) (f : Nat) : ∀ {lo i b : Nat} {w : World}, TreeF f L lo i → CondS bs L N w i b → Sp w → Tb w →
    Calls Tryz.prog 67 #[.pointer (some ⟨b, 0, none⟩)] w fun e w' => e = .returned (S (plainF f L i)) ∧ Below w.heap.size w w' := by
  induction f with
  | zero => intro lo i b w h; exact h.elim
  | succ f ih =>
    intro lo i b w hT hC hS hTb
    have hlt := hT.lt
    have hsub := forest_bounds _ hT.2.2
    have hlen : ∀ j ∈ (L.getD i noPt).subs, (plainF f L j).length ≤ 100000000 := fun j hj => by
      obtain ⟨lo', h1, h2, h3⟩ := hsub j hj
      have := TreeF.plain_len hL.short h3
      have h4 := h3.lt
      have h5 := hL.few
      have : 1100 * (j + 1 - lo') ≤ 1100 * 5000 := Nat.mul_le_mul_left _ (by omega)
      omega
    have hrec : ∀ j, j < (L.getD i noPt).subs.length → ∀ (bj : Nat) (w1 : World), CondS bs L N w1 ((L.getD i noPt).subs.getD j 0) bj → Below w.heap.size w w1 → Calls Tryz.prog 67 #[.pointer (some ⟨bj, 0, none⟩)] w1 fun e w' => e = .returned (S (plainF f L ((L.getD i noPt).subs.getD j 0))) ∧ Below w1.heap.size w1 w' := fun j hj bj w1 hCj hb => by
      obtain ⟨lo', h1, h2, h3⟩ := hsub _ (getD_in hj)
      exact ih h3 hCj (hS.below hS.pos hb) (hTb.below hb)
    rw [plainF]
    by_cases hn : (L.getD i noPt).tok.k = 110
    · rw [if_pos hn]; exact pplain_num hC hn (hL.num i hlt hn) hTb
    · rw [if_neg hn]
      rcases hT.2.1 with ⟨ha, hs0⟩ | ⟨hw, hl⟩ | ⟨hw, hl⟩ | ⟨m, hm, hj, hl⟩
      · rw [hs0]
        show Calls _ _ _ _ fun e w' => e = .returned (S (L.getD i noPt).tok.text) ∧ _
        by_cases ho : (L.getD i noPt).tok.k = 111
        · exact pplain_own hC ho
        · have htw := hL.tokw i hlt
          rw [alone_iff htw] at ha
          have hk : 20 ≤ kindOf (L.getD i noPt).tok ∧ kindOf (L.getD i noPt).tok ≤ 35 := by
            unfold standsK at ha
            simp only [Bool.or_eq_true, Bool.and_eq_true, decide_eq_true_eq] at ha
            rcases ha with (h1 | h1) | h1
            · exfalso
              rcases htw.cases with h2 | h2 | h2 | ⟨h2, hm⟩
              · exact hn h2
              · exact ho h2
              · unfold kindOf at h1; rw [if_neg hn, if_neg ho, if_pos h2] at h1; simp at h1
              · rw [kind_word h2] at h1; have := spell_big _ hm; unfold kn at h1; omega
            · exact absurd (kind_two.1 h1) ho
            · exact h1
          have hx : (L.getD i noPt).tok.text ∈ spell.drop 3 ∧ kindOf (L.getD i noPt).tok = kn (L.getD i noPt).tok.text := by
            rcases htw.cases with h2 | h2 | h2 | ⟨h2, hm⟩
            · exact absurd h2 hn
            · exact absurd h2 ho
            · exfalso; unfold kindOf at hk; rw [if_neg hn, if_neg ho, if_pos h2] at hk; omega
            · exact ⟨hm, kind_word h2⟩
          have h3 := pplain_word hC hs0 hk hS
          rw [hx.2, (spell_text _ hx.1).1] at h3
          exact h3
      · obtain ⟨e, hk⟩ := isW_text hw
        rw [list_one hl]
        have h3 := pplain_not hC (by rw [kind_word hk, e]; decide) hl (plainF f L ((L.getD i noPt).subs.getD 0 0)) (hlen _ (getD_in (by omega))) (hrec 0 (by omega))
        exact h3
      · obtain ⟨e, hk⟩ := isW_text hw
        rw [list_three hl]
        exact pplain_if hC (by rw [kind_word hk, e]; decide) hl _ _ _ _ (hlen _ (getD_in (by omega))) (hlen _ (getD_in (by omega))) (hlen _ (getD_in (by omega))) (hrec 0 (by omega)) (hrec 1 (by omega)) (hrec 2 (by omega))
      · obtain ⟨e, hk⟩ := joins_text hj
        obtain ⟨a1, a2, a3, a4, a5, a6, a7⟩ := join_kinds _ e
        rw [list_two hl]
        have hkk := kind_word hk
        have h3 := pplain_two hC (by rw [hkk]; exact ⟨a1, a2, a3, a4, a5⟩) hl _ _ (hlen _ (getD_in (by omega))) (hlen _ (getD_in (by omega))) hS (by rw [hkk]; exact a6) (hrec 0 (by omega)) (hrec 1 (by omega))
        rw [hkk, a7] at h3
        exact h3
end Go.Proofs.YtfkdailfcmnjlaaGreatDoor

namespace Go.Proofs.YtfkdailfcmnjlaaGreatDoor
open Go Go.RowKit
set_option maxRecDepth 100000

theorem size_builder : (Tryz.prog.info? 157).map (fun i => i.size) = some 2 := by kernel_rfl

set_option maxHeartbeats 1000000 in
theorem copyCheck_used (b : Nat) (w : World) (h0 : w.cell? ⟨b, 0, none⟩ = some (.pointer (some ⟨b, 0, none⟩))) :
    Calls Tryz.prog 118 #[.pointer (some ⟨b, 0, none⟩)] w fun e w' => e = .returned (.tuple #[]) ∧ w' = w := by
  obtain ⟨j, hj, _⟩ := Option.map_eq_some_iff.1 size_builder
  go_enter Tryz.func118, Tryz.ntmps118
  go_wp2
  rw [Lib.run_neq_ptr_same w _ Tryz.underlying154 hj]
  go_wp2
  go_end0
  exact ⟨rfl, rfl⟩
set_option maxHeartbeats 1000000 in
theorem copyCheck_fresh (b : Nat) (w : World) (h0 : w.cell? ⟨b, 0, none⟩ = some (.pointer none)) (hsh : w.shape? b = some (157, 2)) (hfz : w.frozen? ⟨b, 0, none⟩ = false) :
    Calls Tryz.prog 118 #[.pointer (some ⟨b, 0, none⟩)] w fun e w' => e = .returned (.tuple #[]) ∧ w' = w.setCell ⟨b, 0, none⟩ (.pointer (some ⟨b, 0, none⟩)) := by
  obtain ⟨j, hj, hjs⟩ := Option.map_eq_some_iff.1 size_builder
  go_enter Tryz.func118, Tryz.ntmps118
  go_wp2
  rw [Lib.run_to_unsafe w ⟨b, 0, none⟩ Tryz.underlying154 Tryz.underlying270 hj (by rw [hjs]; decide) hsh (Nat.zero_lt_succ 1)]
  simp only [Result.andThen]
  rw [Oper.upon_value]
  go_wp2
  rw [run_callFunc_extern Tryz.func162 (by kernel_rfl) (by kernel_rfl) (by kernel_rfl) (e := Extern.AbiNoEscape.same) (by kernel_rfl)]
  rw [Lib.run_noEscape]
  simp only [Result.andThen]
  rw [Oper.upon_value]
  go_wp2
  rw [Lib.run_from_unsafe w ⟨b, 0, none⟩ Tryz.underlying270 Tryz.underlying154 hj hsh extra169.liesBuilder]
  simp only [Result.andThen]
  rw [Oper.upon_value]
  go_wp2
  go_end0
  exact ⟨rfl, rfl⟩
/-- Only builders and rows of bytes turn. -/
def WF (w w' : World) : Prop := ∀ (k : Nat) (cs : Array Value) (ty : TypeId) (fr : Nat × Nat), w.heap[k]? = some (.cells cs ty fr) → ty ≠ 5 → ty ≠ 157 → w'.heap[k]? = w.heap[k]?
theorem WF.refl (w : World) : WF w w := fun _ _ _ _ _ _ _ => rfl
theorem WF.trans {w w1 w2 : World} (h : WF w w1) (k : WF w1 w2) : WF w w2 := fun j cs ty fr hj h1 h2 => by
  have e := h j cs ty fr hj h1 h2
  exact (k j cs ty fr (e.trans hj) h1 h2).trans e
theorem WF.set {w : World} {b : Nat} {cs : Array Value} {fr : Nat × Nat} (hb : w.heap[b]? = some (.cells cs 157 fr)) (j : Nat) (v : Value) : WF w (w.setCell ⟨b, j, none⟩ v) := fun k cs' ty fr' hk h1 h2 => by
  refine Below.heap_setCell _ _ _ _ ?_
  simp only
  intro e
  rw [e, hb] at hk
  simp only [Option.some.injEq, Obj.cells.injEq] at hk
  exact h2 hk.2.1.symm
theorem WF.grown {w w' : World} {base n : Nat} {v : Value} {xs : List Value} (hr : w.ownsRow base 5 1 v n xs) (hg : w.grownBy w' v.ownBlock) : WF w w' := fun k cs ty fr hk h1 h2 => by
  refine hg.block k (lt_of_get hk) fun e => ?_
  rcases hr.2 with ⟨rfl, _⟩ | ⟨g, cap, cur, rfl, _, hg', _⟩
  · simp [Value.ownBlock] at e
  · simp [Value.ownBlock] at e
    rw [e, hg'] at hk
    simp only [Option.some.injEq, Obj.cells.injEq] at hk
    exact h1 hk.2.1.symm
theorem copyCheck_any (B b : Nat) (bs : List Value) (w : World) (h : Lib.IsBuilder 157 5 B b bs w) :
    Calls Tryz.prog 118 #[.pointer (some ⟨b, 0, none⟩)] w fun e w' => e = .returned (.tuple #[]) ∧ (Lib.BuilderAt 157 5 B b (.pointer (some ⟨b, 0, none⟩)) bs w' ∧ Below B w w' ∧ WF w w') := by
  rcases h with h | h
  · refine (copyCheck_fresh b w h.cell0 h.shape h.frozen0).mono ?_
    rintro e w' ⟨rfl, rfl⟩
    exact ⟨rfl, h.used _, (Below.refl B w).setCell (p := ⟨b, 0, none⟩) h.1 _, WF.set h.2.choose_spec.1 _ _⟩
  · refine (copyCheck_used b w h.cell0).mono ?_
    rintro e w' ⟨rfl, rfl⟩
    exact ⟨rfl, h, Below.refl B _, WF.refl _⟩
set_option maxHeartbeats 2000000 in
theorem writeString_any (B b : Nat) (bs : List Value) (s : ByteArray) (w : World) (h : Lib.IsBuilder 157 5 B b bs w) (hlen : bs.length + s.size ≤ 140737488355328) (hBw : B ≤ w.heap.size) :
    Calls Tryz.prog 65 #[.pointer (some ⟨b, 0, none⟩), .string s] w fun e w' => e = .returned (.tuple #[.int .i64 s.size, .nilIface]) ∧ (Lib.BuilderAt 157 5 B b (.pointer (some ⟨b, 0, none⟩)) (bs ++ Lib.strCells s) w' ∧ Below B w w' ∧ WF w w') := by
  obtain ⟨i0, hi, hz0, hz1, hz2⟩ := info_parts extra169.infoByte
  have W1 := copyCheck_any B b bs w h
  go_enter Tryz.func65, Tryz.ntmps65
  go_wp2_with fail
  refine W1.mono ?_
  rintro e w1 ⟨rfl, h1, hb1, hW1⟩
  clear W1
  obtain ⟨hB, v, hbk, hown, hne⟩ := h1
  have c0 : w1.cell? ⟨b, 0, none⟩ = some (.pointer (some ⟨b, 0, none⟩)) := by rw [Lib.cell_of_heap hbk]; rfl
  have c1 : w1.cell? ⟨b, 1, none⟩ = some v := by rw [Lib.cell_of_heap hbk]; rfl
  go_wp2_with (at_builtin; refine Lib.wpList_append_own_string _ rfl _ _ 155 9 rfl B 5 i0 Tryz.underlying155 Tryz.underlying9 hi hz0 hz1 hz2 _ _ _ rfl hown s rfl ?c3 ?c4 ?c5 ?_)
  case c3 => unfold maxLen; omega
  case c4 => omega
  case c5 => have := hb1.size; omega
  intro v' w2 hown' hgrow _
  have hlt : b < w1.heap.size := lt_of_get hbk
  have hb2 : w2.heap[b]? = some (.cells #[.pointer (some ⟨b, 0, none⟩), v] 157 (0, 0)) := by
    rw [hgrow.block b hlt (fun e => hne e.symm)]
    exact hbk
  have d0 : w2.cell? ⟨b, 0, none⟩ = some (.pointer (some ⟨b, 0, none⟩)) := by rw [Lib.cell_of_heap hb2]; rfl
  have d1 : w2.cell? ⟨b, 1, none⟩ = some v := by rw [Lib.cell_of_heap hb2]; rfl
  have f1 : w2.frozen? ⟨b, 1, none⟩ = false := Lib.frozen_of_heap hb2 1
  obtain ⟨ao, n', cap, rfl⟩ : ∃ ao n' cap, v' = .slice ao n' cap := by
    rcases hown'.2 with ⟨hv, _⟩ | ⟨g, cap, cur, hv, _⟩
    · exact ⟨_, _, _, hv⟩
    · exact ⟨_, _, _, hv⟩
  go_wp2
  go_ret2
  refine ⟨rfl, ?_, ?_, ?_⟩
  · exact Lib.BuilderAt.put (T := 157) (e := 5) hB hb2 (bs' := bs ++ Lib.strCells s) (by simpa [Lib.strCells_length] using hown') (by decide)
  · exact (hb1.grown hgrow (by have := hb1.size; omega) (fun k hk => (hown.lt k hk).1)).setCell (p := ⟨b, 1, none⟩) hB _
  · exact (hW1.trans (WF.grown hown hgrow)).trans (WF.set hb2 _ _)
theorem builderString_any (B b : Nat) (l : List UInt8) (w : World) (h : Lib.IsBuilder 157 5 B b (Lib.byteCells l) w) (hBw : B ≤ w.heap.size) :
    Calls Tryz.prog 68 #[.pointer (some ⟨b, 0, none⟩)] w fun e w' => e = .returned (S l) ∧ Below B w w' := Any.Builder_String_any lays169 extra169 B b l w h hBw
end Go.Proofs.YtfkdailfcmnjlaaGreatDoor

namespace Go.Proofs.YtfkdailfcmnjlaaGreatDoor
open Go Go.RowKit
set_option maxRecDepth 100000
attribute [local go_sem ↓] Go.wp_at_zero Go.wp_at_succ
variable {bs : Nat}

theorem isB_below {B b : Nat} {l : List Value} {w w' : World} (h : Lib.IsBuilder 157 5 B b l w) (hb : Below w.heap.size w w') : Lib.IsBuilder 157 5 B b l w' := by
  rcases h with ⟨h1, v, h2, h3, h4⟩ | ⟨h1, v, h2, h3, h4⟩
  · exact .inl ⟨h1, v, by rw [hb.block _ (lt_of_get h2)]; exact h2, ownsRow_below h3 hb, h4⟩
  · exact .inr ⟨h1, v, by rw [hb.block _ (lt_of_get h2)]; exact h2, ownsRow_below h3 hb, h4⟩
theorem print_take {L : List Pt} {xs : List Itm} {k : Nat} (h : k < xs.length) : printL L (xs.take (k + 1)) = printL L (xs.take k) ++ itemL L (xs.getD k noItm) := by
  unfold printL
  rw [take_snoc h noItm, List.flatMap_append]; simp

theorem cells_app (l m : List UInt8) : Lib.byteCells l ++ Lib.strCells (ByteArray.mk m.toArray) = Lib.byteCells (l ++ m) := by
  simp [Lib.byteCells, Lib.strCells]
theorem cells_len (l : List UInt8) : (Lib.byteCells l).length = l.length := by simp [Lib.byteCells]
theorem head_len (x : Itm) (h : x.name.length ≤ 1000) : (headL x).length ≤ 1010 := by
  unfold headL wsAllow wsDeny wsLet wsEq
  split
  · split <;> simp
  · simp; omega

set_option maxHeartbeats 8000000 in
theorem plain_any {L : List Pt} {N : Tok → Int → Prop} (hL : PlainOK L) {xs : List Itm} {ys : List (Tok × Tok × Nat × Int)} {base : Nat} {v : Value} {w : World} (hrow : w.ownsRow base 163 10 v ys.length (iCells ys)) (hy : ys.length ≤ 1001)
    (hit : ItemsAt (CondS bs L N w) xs ys) (htr : TreesAt L xs 0) (hnm : ∀ x ∈ xs, x.name.length ≤ 1000) (hS : Sp w) (hTb : Tb w) :
    Calls Tryz.prog 34 #[v] w fun e w' => e = .returned (S (printL L xs)) ∧ Below w.heap.size w w' := by
  obtain ⟨a, cap, rfl, hcell⟩ := row_cells hrow
  have hlen : Hid _ := hit.len
  have HC : Hid _ := hcell
  have HT : Hid _ := hit
  have HTR : Hid _ := htr
  have HL : Hid _ := hL
  have HNM : Hid _ := hnm
  have HS : Hid (Sp w) := hS
  have HTB : Hid (Tb w) := hTb
  clear hrow hcell hit htr hL hnm hS hTb
  go_enter Tryz.func34, Tryz.ntmps34
  have hB0 : Below w.heap.size w (w.alloc (.cells #[.pointer none, .slice none 0 0] 157)) := (Below.refl _ _).alloc (Nat.le_refl _) _
  have hI0 : Lib.IsBuilder 157 5 w.heap.size w.heap.size (Lib.byteCells []) (w.alloc (.cells #[.pointer none, .slice none 0 0] 157)) := .inl ⟨Nat.le_refl _, _, heap_alloc_new w _, World.ownsRow_nil _ _ _ _, by simp [Value.ownBlock]⟩
  go_wp2_with fail
  generalize w.alloc (.cells #[.pointer none, .slice none 0 0] 157) = wz at *
  generalize hbb : w.heap.size = bb at *
  have HBB : Hid _ := hbb
  clear hbb
  go_loopw [8] (fun kv wr => ∃ k fr l, k ≤ ys.length ∧ kv = .int .i64 k ∧ Hid (l = printL L (xs.take k)) ∧ l.length ≤ 6000000 * k ∧ Hid (TreesAt L (xs.drop k) fr) ∧ Hid (ItemsAt (CondS bs L N w) (xs.drop k) (ys.drop k)) ∧ Lib.IsBuilder 157 5 bb bb (Lib.byteCells l) wr ∧ Below bb w wr) (fun kv _ => ys.length - (intOf kv).toNat)
  case atStart => exact ⟨0, 0, [], Nat.zero_le _, rfl, rfl, by simp, HTR.out, HT.out, hI0, hB0⟩
  case round =>
    obtain ⟨k, fr, l, hk, rfl, HM, hll, HTR2, HIT2, hisb, hbw⟩ := hrel
    by_cases hlt : k < ys.length
    · have hltx : k < xs.length := by rw [← hlen.out]; exact hlt
      have ht2 := HTR2.out
      have hi2 := HIT2.out
      rw [drop_head hltx noItm] at ht2 hi2
      rw [drop_head hlt (zTok, zTok, 0, 0)] at hi2
      obtain ⟨g, rfl, ⟨gcs, hgc⟩, hcells⟩ := HC.out k hlt
      have HPT : Hid _ := print_take (L := L) hltx
      have hxn : (xs.getD k noItm).name.length ≤ 1000 := HNM.out _ (by rw [List.getD_eq_getElem?_getD, List.getElem?_eq_getElem hltx]; exact List.getElem_mem hltx)
      generalize xs.getD k noItm = x at *
      generalize ys.getD k (zTok, zTok, 0, 0) = y at *
      obtain ⟨⟨hCd, hO⟩, hi2⟩ := hi2
      obtain ⟨hTr, hpt, ht2⟩ := ht2
      obtain ⟨t0, u0, b, wh⟩ := y
      simp only [] at hCd hO
      have hw0 : w.heap.size ≤ wr.heap.size := hbw.size
      have hbw' : Below w.heap.size w wr := by rw [HBB.out]; exact hbw
      have hct : ∀ j, j < 10 → wr.cell? ⟨g, k * 10 + j, none⟩ = (icell (t0, u0, b, wh))[j]? := fun j hj => by
        rw [hbw'.cell (p := ⟨g, k * 10 + j, none⟩) (lt_of_get hgc)]; exact hcells j hj
      have c0 : wr.cell? ⟨g, k * 10, none⟩ = some (.int .i64 (kindOf t0)) := hct 0 (by omega)
      have c1 : wr.cell? ⟨g, k * 10 + 1, none⟩ = some (.int .i64 t0.pl) := hct 1 (by omega)
      have c2 : wr.cell? ⟨g, k * 10 + 2, none⟩ = some (.int .i64 (nmOf t0)) := hct 2 (by omega)
      have c3 : wr.cell? ⟨g, k * 10 + 3, none⟩ = some (S (ownOf t0)) := hct 3 (by omega)
      have c4 : wr.cell? ⟨g, k * 10 + 4, none⟩ = some (.int .i64 (kindOf u0)) := hct 4 (by omega)
      have c5 : wr.cell? ⟨g, k * 10 + 5, none⟩ = some (.int .i64 u0.pl) := hct 5 (by omega)
      have c6 : wr.cell? ⟨g, k * 10 + 6, none⟩ = some (.int .i64 (nmOf u0)) := hct 6 (by omega)
      have c7 : wr.cell? ⟨g, k * 10 + 7, none⟩ = some (S (ownOf u0)) := hct 7 (by omega)
      have c8 : wr.cell? ⟨g, k * 10 + 8, none⟩ = some (.int .i64 wh) := hct 8 (by omega)
      have c9 : wr.cell? ⟨g, k * 10 + 9, none⟩ = some (.pointer (some ⟨b, 0, none⟩)) := hct 9 (by omega)
      have hTF := hTr.fit
      have hpl := TreeF.plain_len HL.out.short hTF
      have hxl := hTF.lt
      have hfew := HL.out.few
      have hpl2 : (plainF (x.top + 1) L x.top).length ≤ 5500000 := Nat.le_trans hpl (Nat.le_trans (Nat.mul_le_mul_left _ (show x.top + 1 - fr ≤ 5000 by omega)) (by decide))
      have hhl := head_len x hxn
      have hb1 : Below wr.heap.size wr (wr.alloc (itObjW t0 u0 wh (.pointer (some ⟨b, 0, none⟩)))) := (Below.refl _ _).alloc (Nat.le_refl _) _
      have hB1 : Below w.heap.size w (wr.alloc (itObjW t0 u0 wh (.pointer (some ⟨b, 0, none⟩)))) := hbw'.trans (hb1.mono hw0)
      have hz1 : (wr.alloc (itObjW t0 u0 wh (.pointer (some ⟨b, 0, none⟩)))).heap[wr.heap.size]? = some (itObjW t0 u0 wh (.pointer (some ⟨b, 0, none⟩))) := heap_alloc_new wr _
      have hI1 := isB_below hisb hb1
      have W1 := head_any (b := b) (n := wh) hO hxn (wr.alloc (itObjW t0 u0 wh (.pointer (some ⟨b, 0, none⟩)))) (Sp.below HS.out (Sp.pos HS.out) hB1)
      unfold itW at W1
      have HIT3 : Hid _ := hi2
      have HTR3 : Hid _ := ht2
      have HCD : Hid _ := hCd
      have HTF : Hid _ := hTF
      have HEI : Hid (itemL L x = headL x ++ plainF (x.top + 1) L x.top ++ [59, 10]) := rfl
      clear hcells hct hTr hTF hi2 ht2 hCd hO hpl hbw hisb hgc
      unfold itObjW at hb1 hB1 hz1 hI1 W1
      generalize headL x = hd at *
      generalize kindOf t0 = q0 at *
      generalize t0.pl = q1 at *
      generalize nmOf t0 = q2 at *
      generalize ownOf t0 = q3 at *
      generalize kindOf u0 = q4 at *
      generalize u0.pl = q5 at *
      generalize nmOf u0 = q6 at *
      generalize ownOf u0 = q7 at *
      go_wp2_with fail
      refine W1.mono ?_
      rintro e w1 ⟨rfl, hb2⟩
      clear W1 c0 c1 c2 c3 c4 c5 c6 c7 c8 c9
      have hB2 := hB1.trans (hb2.mono hB1.size)
      have hz2 := (hb2.block _ (lt_of_get hz1)).trans hz1
      have hs2 := hB2.size
      rw [HBB.out] at hs2
      have W2 := writeString_any bb bb (Lib.byteCells l) ⟨hd.toArray⟩ w1 (isB_below hI1 hb2) (by rw [cells_len]; simp [ByteArray.size]; omega) hs2
      rw [cells_app] at W2
      clear hb1 hB1 hz1 hI1 hb2
      have HB2 : Hid _ := hB2
      have HZ2 : Hid _ := hz2
      clear hB2 hz2
      go_wp2_with fail
      refine W2.mono ?_
      rintro e w2 ⟨rfl, hI3, hb3, hW3⟩
      clear W2
      have hz3 := (hW3 _ _ _ _ HZ2.out (by decide) (by decide)).trans HZ2.out
      have hB3 : Below w.heap.size w w2 := HB2.out.trans (by rw [HBB.out]; exact hb3)
      obtain ⟨⟨z0, z1, z2, z3, z4, z5, z6, z7, z8, z9⟩, zf⟩ := it_cells hz3
      have W3 := pplain_any HL.out (x.top + 1) HTF.out (HCD.out.grow hB3) (Sp.below HS.out (Sp.pos HS.out) hB3) (Tb.below HTB.out hB3)
      have HB3 : Hid _ := hB3
      have hI3' : Hid (Lib.IsBuilder 157 5 bb bb (Lib.byteCells (l ++ hd)) w2) := .inr hI3
      clear hz3 hB3 hI3 hb3 hW3 HZ2 HB2
      generalize plainF (x.top + 1) L x.top = pl at *
      go_wp2_with fail
      refine W3.mono ?_
      rintro e w3 ⟨rfl, hb4⟩
      clear W3 z0 z1 z2 z3 z4 z5 z6 z7 z8 z9 zf
      have hB4 := HB3.out.trans (hb4.mono HB3.out.size)
      have hs4 := hB4.size
      rw [HBB.out] at hs4
      have W4 := writeString_any bb bb (Lib.byteCells (l ++ hd)) ⟨pl.toArray⟩ w3 (isB_below hI3'.out hb4) (by rw [cells_len]; simp [ByteArray.size]; omega) hs4
      rw [cells_app] at W4
      have HB4 : Hid _ := hB4
      clear hB4 hb4 hI3'
      go_wp2_with fail
      refine W4.mono ?_
      rintro e w4 ⟨rfl, hI5, hb5, _⟩
      clear W4
      have hB5 : Below w.heap.size w w4 := HB4.out.trans (by rw [HBB.out]; exact hb5)
      have hs5 := hB5.size
      rw [HBB.out] at hs5
      have W5 := writeString_any bb bb (Lib.byteCells (l ++ hd ++ pl)) ⟨[59, 10].toArray⟩ w4 (.inr hI5) (by rw [cells_len]; simp [ByteArray.size]; omega) hs5
      rw [cells_app] at W5
      have HB5 : Hid _ := hB5
      clear hB5 hb5 hI5
      go_wp2_with fail
      refine W5.mono ?_
      rintro e w5 ⟨rfl, hI6, hb6, _⟩
      clear W5
      have hB6 : Below bb w w5 := by
        have := HB5.out
        rw [HBB.out] at this
        exact this.trans hb6
      go_wp2_with fail
      go_roundw
      case rel =>
        refine ⟨k + 1, x.parts, l ++ hd ++ pl ++ [59, 10], by omega, by simp, ?_, by simp; omega, HTR3.out, HIT3.out, .inr hI6, hB6⟩
        show _ = _
        rw [HPT.out, HEI.out, HM.out]; simp
      case measure => simp [intOf]; omega
    · have hke : k = ys.length := by omega
      subst hke
      have hsz : bb ≤ wr.heap.size := by have := hbw.size; rw [HBB.out] at this; exact this
      have W1 := builderString_any bb bb l wr hisb hsz
      have HE : Hid (l = printL L xs) := by
        have := HM.out
        rw [List.take_of_length_le (by rw [hlen.out]; exact Nat.le_refl _)] at this
        exact this
      clear hisb
      go_wp2_with fail
      refine W1.mono ?_
      rintro e w1 ⟨rfl, hb1⟩
      clear W1
      go_wp2_with fail
      go_ret
      refine ⟨by rw [← HE.out]; rfl, ?_⟩
      rw [HBB.out]; exact hbw.trans hb1
end Go.Proofs.YtfkdailfcmnjlaaGreatDoor
