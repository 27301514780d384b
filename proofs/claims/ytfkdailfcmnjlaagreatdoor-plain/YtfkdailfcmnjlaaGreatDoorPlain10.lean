/-
  The program's plain form of an 'if'. The program's plain form of every condition is the plain function's. What the program's words tell. Codes: plain Lean functions that say what the document asks of bytes (instructions, what is known at each, the machine). Codes: what is known of the instructions that bytes are; a code that may be one never goes wrong. Codes: a code that may be one never goes wrong, and ends within as many steps as it has instructions. Compiling: trees of conditions, what they tell, their types; the passes that rewrite them, as plain Lean functions. Compiling: the passes leave what a condition tells, and its type. What the program tells of a tree of a condition in its memory. The library's strings.Builder at this program: WriteString and String. The program's plain form of a policy. The document's 'tens': a number's digits. Every Check of the program is the document's. The document's plain form of every part; what is known of a text that was read, for its plain form. The document's 'tells': what a part of a condition tells. The document's Print. Every Print of the program is the document's. What a policy says of an event: the plain function, and what is known of a text that was read. The program's Mean of a policy: what it keeps from item to item. The program's Mean. A copy of rows of pairs; the law's loan of a state.
-/
import Derived.Test.YtfkdailfcmnjlaaGreatDoorPlain01
import Derived.Test.YtfkdailfcmnjlaaGreatDoorPlain02
import Derived.Test.YtfkdailfcmnjlaaGreatDoorPlain03
import Derived.Test.YtfkdailfcmnjlaaGreatDoorPlain04
import Derived.Test.YtfkdailfcmnjlaaGreatDoorPlain05
import Derived.Test.YtfkdailfcmnjlaaGreatDoorPlain06
import Derived.Test.YtfkdailfcmnjlaaGreatDoorPlain07
import Derived.Test.YtfkdailfcmnjlaaGreatDoorPlain08
import Derived.Test.YtfkdailfcmnjlaaGreatDoorPlain09
import Derived.Test.YtfkdailfcmnjlaaGreatDoorLays2
import Derived.Test.YtfkdailfcmnjlaaGreatDoorLays
import Derived.WalkKit
import Derived.Deep.QuietTactic
import Derived.BigQuiet
import Derived.WalkSpells
import GoSem.Op.String
import Derived.Deep.AppendLies
import Derived.Deep.RegionHeld3
import Derived.Deep.DrawnRows
import Derived.Deep.RegionHeldLaw
import Derived.Deep.RegionLaw
import Derived.Lib.ParseIntBCases
import Derived.Deep.OwnRows
import Derived.Lib.LaidTab
import Derived.Lib.AppendIntMem
import Derived.Shelf.Strings.Builder1
import Derived.Laws.CopyOwn
set_option linter.unusedVariables false
set_option linter.unusedSimpArgs false
namespace Go.Proofs.YtfkdailfcmnjlaaGreatDoor
open Go Go.RowKit
set_option maxRecDepth 100000
attribute [local go_sem ↓] Go.wp_at_zero Go.wp_at_succ
variable {bs : Nat}

set_option maxHeartbeats 2000000 in
theorem pplain_if {L : List Pt} {N : Tok → Int → Prop} {i b : Nat} {w : World} (hC : CondS bs L N w i b) (hk : kindOf (L.getD i noPt).tok = 14) (hl : (L.getD i noPt).subs.length = 3) (tx r1 r2 r3 : List UInt8) (hr1 : r1.length ≤ 100000000) (hr2 : r2.length ≤ 100000000) (hr3 : r3.length ≤ 100000000)
    (HI1 : ∀ (bj : Nat) (w1 : World), CondS bs L N w1 ((L.getD i noPt).subs.getD 0 0) bj → Below w.heap.size w w1 → Calls Tryz.prog 67 #[.pointer (some ⟨bj, 0, none⟩)] w1 fun e w' => e = .returned (S r1) ∧ Below w1.heap.size w1 w')
    (HI2 : ∀ (bj : Nat) (w1 : World), CondS bs L N w1 ((L.getD i noPt).subs.getD 1 0) bj → Below w.heap.size w w1 → Calls Tryz.prog 67 #[.pointer (some ⟨bj, 0, none⟩)] w1 fun e w' => e = .returned (S r2) ∧ Below w1.heap.size w1 w')
    (HI3 : ∀ (bj : Nat) (w1 : World), CondS bs L N w1 ((L.getD i noPt).subs.getD 2 0) bj → Below w.heap.size w w1 → Calls Tryz.prog 67 #[.pointer (some ⟨bj, 0, none⟩)] w1 fun e w' => e = .returned (S r3) ∧ Below w1.heap.size w1 w') :
    Calls Tryz.prog 67 #[.pointer (some ⟨b, 0, none⟩)] w fun e w' => e = .returned (S (overL tx [r1, r2, r3])) ∧ Below w.heap.size w w' := by
  obtain ⟨u, n, bl, hi, hlo, hn, hb, hu, hs⟩ := hC.inv
  obtain ⟨⟨c0, c1, c2, c3, c4, c5⟩, cf⟩ := cd_cells hb
  obtain ⟨au, rfl, ha⟩ := hu.slice
  obtain ⟨g, rfl, hg⟩ := ha 0 (by omega)
  have d0 := under_cell hg 0 (by omega)
  have d1 := under_cell hg 1 (by omega)
  have d2 := under_cell hg 2 (by omega)
  rw [hl] at c4
  rw [hk] at c0
  have HE : Hid (overL tx [r1, r2, r3] = wsIf ++ r1 ++ wsThen ++ r2 ++ wsElse ++ r3 ++ [41]) := rfl
  generalize overL tx [r1, r2, r3] = q at *
  have W1 := fun w1 (h : Below w.heap.size w w1) => HI1 (bl 0) w1 ((hs 0 (by omega)).grow h) h
  have W2 := fun w1 (h : Below w.heap.size w w1) => HI2 (bl 1) w1 ((hs 1 (by omega)).grow h) h
  have W3 := fun w1 (h : Below w.heap.size w w1) => HI3 (bl 2) w1 ((hs 2 (by omega)).grow h) h
  clear hC hb hu hs ha hg hn HI1 HI2 HI3
  have keepF : ∀ w', Below w.heap.size w w' → (w'.cell? ⟨b, 4, none⟩ = some (.slice (some ⟨g, 0, none⟩) 3 3) ∧ w'.cell? ⟨g, 0, none⟩ = some (.pointer (some ⟨bl 0, 0, none⟩)) ∧ w'.cell? ⟨g, 1, none⟩ = some (.pointer (some ⟨bl 1, 0, none⟩)) ∧ w'.cell? ⟨g, 2, none⟩ = some (.pointer (some ⟨bl 2, 0, none⟩))) := fun w' h => by
    rw [h.cell (p := ⟨b, 4, none⟩) (World.block_lt_of_cell? w _ c4), h.cell (p := ⟨g, 0, none⟩) (World.block_lt_of_cell? w _ d0), h.cell (p := ⟨g, 1, none⟩) (World.block_lt_of_cell? w _ d1), h.cell (p := ⟨g, 2, none⟩) (World.block_lt_of_cell? w _ d2)]
    exact ⟨c4, d0, d1, d2⟩
  have KF : Hid _ := keepF
  clear keepF c1 c2 c3 c5 cf
  have s1 : ¬ 9223372036854775807 < 4 + r1.length := by omega
  have s2 : ¬ 9223372036854775807 < 4 + r1.length + 6 := by omega
  have s3 : ¬ 9223372036854775807 < 4 + r1.length + 6 + r2.length := by omega
  have s4 : ¬ 9223372036854775807 < 4 + r1.length + 6 + r2.length + 6 := by omega
  have s5 : ¬ 9223372036854775807 < 4 + r1.length + 6 + r2.length + 6 + r3.length := by omega
  have s6 : ¬ 9223372036854775807 < 4 + r1.length + 6 + r2.length + 6 + r3.length + 1 := by omega
  go_enter Tryz.func67, Tryz.ntmps67
  go_wp2_with fail
  go_region_held3 (fun w' => w'.cell? ⟨b, 4, none⟩ = some (.slice (some ⟨g, 0, none⟩) 3 3) ∧ w'.cell? ⟨g, 0, none⟩ = some (.pointer (some ⟨bl 0, 0, none⟩)) ∧ w'.cell? ⟨g, 1, none⟩ = some (.pointer (some ⟨bl 1, 0, none⟩)) ∧ w'.cell? ⟨g, 2, none⟩ = some (.pointer (some ⟨bl 2, 0, none⟩))) (first | exact KF.out _ hB9 | exact KF.out _ hB7 | exact KF.out _ hB5 | go_keep) ((first | (go_at_call 67; refine (W3 _ hB7).mono ?_; rintro e w9 ⟨rfl, hb9⟩; have hB9 := hB7.trans (hb9.mono hB7.size)) | (go_at_call 67; refine (W2 _ hB5).mono ?_; rintro e w7 ⟨rfl, hb7⟩; have hB7 := hB5.trans (hb7.mono hB5.size)) | (go_at_call 67; refine (W1 _ (Below.refl _ _).drew).mono ?_; rintro e w5 ⟨rfl, hb5⟩; have hB5 : Below w.heap.size w w5 := (Below.refl _ _).drew.trans hb5)))
  all_goals rename_i hHeld
  all_goals clear hHeld
  all_goals go_wp2_with fail
  all_goals go_ret
  all_goals refine ⟨?_, hB9⟩
  all_goals rw [HE.out]
  all_goals have e1 := ba_cat wsIf r1
  all_goals have e2 := ba_cat (wsIf ++ r1) wsThen
  all_goals have e3 := ba_cat (wsIf ++ r1 ++ wsThen) r2
  all_goals have e4 := ba_cat (wsIf ++ r1 ++ wsThen ++ r2) wsElse
  all_goals have e5 := ba_cat (wsIf ++ r1 ++ wsThen ++ r2 ++ wsElse) r3
  all_goals have e6 := ba_cat (wsIf ++ r1 ++ wsThen ++ r2 ++ wsElse ++ r3) [41]
  all_goals exact congrArg (fun s => Ending.returned (Value.string s)) (by rw [← e6, ← e5, ← e4, ← e3, ← e2, ← e1]; rfl)
end Go.Proofs.YtfkdailfcmnjlaaGreatDoor

namespace Go.Proofs.YtfkdailfcmnjlaaGreatDoor
open Go Go.RowKit
set_option maxRecDepth 100000
variable {bs : Nat}

theorem spell_text : ∀ x ∈ spell.drop 3, spell.getD (kn x) [] = x ∧ kn x < 36 ∧ x.length ≤ 100 := by decide
theorem join_kinds : ∀ x ∈ ([[43], [45], [60], [60, 61], [61], [111, 114], [97, 110, 100]] : List (List UInt8)), kn x ≠ 1 ∧ kn x ≠ 2 ∧ kn x ≠ 19 ∧ kn x ≠ 14 ∧ kn x < 36 ∧ (spell.getD (kn x) []).length ≤ 100 ∧ spell.getD (kn x) [] = x := by decide
theorem list_two {α : Type} {F : Nat → α} {l : List Nat} (h : l.length = 2) : l.map F = [F (l.getD 0 0), F (l.getD 1 0)] := by
  match l, h with
  | [a, b], _ => rfl
theorem list_three {α : Type} {F : Nat → α} {l : List Nat} (h : l.length = 3) : l.map F = [F (l.getD 0 0), F (l.getD 1 0), F (l.getD 2 0)] := by
  match l, h with
  | [a, b, c], _ => rfl
theorem list_one {α : Type} {F : Nat → α} {l : List Nat} (h : l.length = 1) : l.map F = [F (l.getD 0 0)] := by
  match l, h with
  | [a], _ => rfl
theorem getD_in {l : List Nat} {j : Nat} (h : j < l.length) : l.getD j 0 ∈ l := by rw [List.getD_eq_getElem?_getD, List.getElem?_eq_getElem h]; exact List.getElem_mem h

theorem pplain_any {L : List Pt} {N : Tok → Int → Prop} (hL : PlainOK L) (f : Nat) : ∀ {lo i b : Nat} {w : World}, TreeF f L lo i → CondS bs L N w i b → Sp w → Tb w →
    Calls Tryz.prog 67 #[.pointer (some ⟨b, 0, none⟩)] w fun e w' => e = .returned (S (plainF f L i)) ∧ Below w.heap.size w w' := by
  induction f with
  | zero => intro lo i b w h; exact h.elim
  | succ f ih =>
    intro lo i b w hT hC hS hTb
    have hlt := hT.lt
    have hsub := forest_bounds _ hT.2.2
    have hlen : ∀ j ∈ (L.getD i noPt).subs, (plainF f L j).length ≤ 100000000 := fun j hj => by
      obtain ⟨lo', h1, h2, h3⟩ := hsub j hj
      have := TreeF.plain_len hL.short h3
      have h4 := h3.lt
      have h5 := hL.few
      have : 1100 * (j + 1 - lo') ≤ 1100 * 5000 := Nat.mul_le_mul_left _ (by omega)
      omega
    have hrec : ∀ j, j < (L.getD i noPt).subs.length → ∀ (bj : Nat) (w1 : World), CondS bs L N w1 ((L.getD i noPt).subs.getD j 0) bj → Below w.heap.size w w1 → Calls Tryz.prog 67 #[.pointer (some ⟨bj, 0, none⟩)] w1 fun e w' => e = .returned (S (plainF f L ((L.getD i noPt).subs.getD j 0))) ∧ Below w1.heap.size w1 w' := fun j hj bj w1 hCj hb => by
      obtain ⟨lo', h1, h2, h3⟩ := hsub _ (getD_in hj)
      exact ih h3 hCj (hS.below hS.pos hb) (hTb.below hb)
    rw [plainF]
    by_cases hn : (L.getD i noPt).tok.k = 110
    · rw [if_pos hn]; exact pplain_num hC hn (hL.num i hlt hn) hTb
    · rw [if_neg hn]
      rcases hT.2.1 with ⟨ha, hs0⟩ | ⟨hw, hl⟩ | ⟨hw, hl⟩ | ⟨m, hm, hj, hl⟩
      · rw [hs0]
        show Calls _ _ _ _ fun e w' => e = .returned (S (L.getD i noPt).tok.text) ∧ _
        by_cases ho : (L.getD i noPt).tok.k = 111
        · exact pplain_own hC ho
        · have htw := hL.tokw i hlt
          rw [alone_iff htw] at ha
          have hk : 20 ≤ kindOf (L.getD i noPt).tok ∧ kindOf (L.getD i noPt).tok ≤ 35 := by
            unfold standsK at ha
            simp only [Bool.or_eq_true, Bool.and_eq_true, decide_eq_true_eq] at ha
            rcases ha with (h1 | h1) | h1
            · exfalso
              rcases htw.cases with h2 | h2 | h2 | ⟨h2, hm⟩
              · exact hn h2
              · exact ho h2
              · unfold kindOf at h1; rw [if_neg hn, if_neg ho, if_pos h2] at h1; simp at h1
              · rw [kind_word h2] at h1; have := spell_big _ hm; unfold kn at h1; omega
            · exact absurd (kind_two.1 h1) ho
            · exact h1
          have hx : (L.getD i noPt).tok.text ∈ spell.drop 3 ∧ kindOf (L.getD i noPt).tok = kn (L.getD i noPt).tok.text := by
            rcases htw.cases with h2 | h2 | h2 | ⟨h2, hm⟩
            · exact absurd h2 hn
            · exact absurd h2 ho
            · exfalso; unfold kindOf at hk; rw [if_neg hn, if_neg ho, if_pos h2] at hk; omega
            · exact ⟨hm, kind_word h2⟩
          have h3 := pplain_word hC hs0 hk hS
          rw [hx.2, (spell_text _ hx.1).1] at h3
          exact h3
      · obtain ⟨e, hk⟩ := isW_text hw
        rw [list_one hl]
        have h3 := pplain_not hC (by rw [kind_word hk, e]; decide) hl (plainF f L ((L.getD i noPt).subs.getD 0 0)) (hlen _ (getD_in (by omega))) (hrec 0 (by omega))
        exact h3
      · obtain ⟨e, hk⟩ := isW_text hw
        rw [list_three hl]
        exact pplain_if hC (by rw [kind_word hk, e]; decide) hl _ _ _ _ (hlen _ (getD_in (by omega))) (hlen _ (getD_in (by omega))) (hlen _ (getD_in (by omega))) (hrec 0 (by omega)) (hrec 1 (by omega)) (hrec 2 (by omega))
      · obtain ⟨e, hk⟩ := joins_text hj
        obtain ⟨a1, a2, a3, a4, a5, a6, a7⟩ := join_kinds _ e
        rw [list_two hl]
        have hkk := kind_word hk
        have h3 := pplain_two hC (by rw [hkk]; exact ⟨a1, a2, a3, a4, a5⟩) hl _ _ (hlen _ (getD_in (by omega))) (hlen _ (getD_in (by omega))) hS (by rw [hkk]; exact a6) (hrec 0 (by omega)) (hrec 1 (by omega))
        rw [hkk, a7] at h3
        exact h3
end Go.Proofs.YtfkdailfcmnjlaaGreatDoor

namespace Go.Proofs.YtfkdailfcmnjlaaGreatDoor
open Go Go.RowKit
set_option maxRecDepth 100000
attribute [local go_sem ↓] Go.wp_at_zero Go.wp_at_succ
variable {bs : Nat}

/-- The teller's cells: the fields, and what the lets told. -/
structure TelAt (w : World) (tb : Nat) (fl : List Int) (v : Value) : Prop where
  fields : ∀ i, i < 9 → w.cell? ⟨tb, i, none⟩ = some (.int .i64 (fl.getD i 0))
  lets : w.cell? ⟨tb, 9, none⟩ = some v
theorem TelAt.lt {w : World} {tb : Nat} {fl : List Int} {v : Value} (h : TelAt w tb fl v) : tb < w.heap.size := World.block_lt_of_cell? w _ h.lets
theorem TelAt.below {w w' : World} {tb : Nat} {fl : List Int} {v : Value} (h : TelAt w tb fl v) (hb : Below w.heap.size w w') : TelAt w' tb fl v :=
  ⟨fun i hi => by rw [hb.cell (p := ⟨tb, i, none⟩) h.lt]; exact h.fields i hi, by rw [hb.cell (p := ⟨tb, 9, none⟩) h.lt]; exact h.lets⟩
/-- A list of numbers at a slice. -/
def IntAt (w : World) (a : Option Addr) (l : List Int) : Prop := ∀ j, j < l.length → ∃ g, a = some ⟨g, 0, none⟩ ∧ w.cell? ⟨g, j, none⟩ = some (.int .i64 (l.getD j 0))
theorem IntAt.below {w w' : World} {a : Option Addr} {l : List Int} (h : IntAt w a l) (hb : Below w.heap.size w w') : IntAt w' a l := fun j hj => by
  obtain ⟨g, e, c⟩ := h j hj
  exact ⟨g, e, by rw [hb.cell (p := ⟨g, j, none⟩) (World.block_lt_of_cell? w _ c)]; exact c⟩

end Go.Proofs.YtfkdailfcmnjlaaGreatDoor

namespace Go.Proofs.YtfkdailfcmnjlaaGreatDoor
open Go Go.RowKit
set_option maxRecDepth 100000

/-- An instruction: its byte, its number, its place. -/
structure Ins where
  op : Nat
  n : Int
  pl : Nat
def noIns : Ins := ⟨0, 0, 0⟩
/-- How many bytes an instruction has; 0: there is none. -/
def sizeOp (op : Nat) : Nat := if op = 1 then 9 else if 2 ≤ op ∧ op ≤ 6 then 2 else if 7 ≤ op ∧ op ≤ 14 then 1 else if op = 15 ∨ op = 16 then 3 else if op = 17 ∨ op = 18 then 2 else 0
/-- The greatest number of an instruction of two bytes. -/
def boundOp (op cells : Nat) : Int := if op = 2 then 1 else if op = 3 then 4 else if op = 4 then 8 else if op = 5 ∨ op = 6 then (cells : Int) - 1 else 255
def byteAt (b : List UInt8) (i : Nat) : Nat := (b.getD i 0).toNat
/-- The number that so many bytes are, the greatest first. -/
def beVal (b : List UInt8) (i : Nat) : Nat → Nat
  | 0 => 0
  | n + 1 => beVal b i n * 256 + byteAt b (i + n)
/-- Within 64 bits, with sign. -/
def signed64 (n : Nat) : Int := if n < 9223372036854775808 then (n : Int) else (n : Int) - 18446744073709551616
def numAt (b : List UInt8) (op at_ : Nat) : Int := if op = 1 then signed64 (beVal b (at_ + 1) 8) else (beVal b (at_ + 1) (sizeOp op - 1) : Int)
/-- The instruction at a place. -/
def insAt (b : List UInt8) (at_ : Nat) : Ins := ⟨byteAt b at_, numAt b (byteAt b at_) at_, at_⟩
/-- All instructions from a place on. -/
def dec : Nat → List UInt8 → Nat → Option (List Ins)
  | 0, _, _ => none
  | f + 1, b, a => if b.length ≤ a then some [] else if sizeOp (byteAt b a) ≠ 0 ∧ a + sizeOp (byteAt b a) ≤ b.length ∧ (sizeOp (byteAt b a) = 2 → (byteAt b (a + 1) : Int) ≤ boundOp (byteAt b a) (byteAt b 2)) then (dec f b (a + sizeOp (byteAt b a))).map (insAt b a :: ·) else none

/-- What is known at a place: the types on the stack (the uppermost first), those of the cells (0: none). -/
structure Kn where
  st : List Nat
  cl : List Nat
def fieldTy (n : Nat) : Nat := if n ≤ 3 then 1 else if n ≤ 6 then 3 else 2
/-- Where a jump comes to. -/
def jumpTo (ins : List Ins) (x : Ins) : Option Nat := ins.findIdx? fun y => y.pl == x.pl + 3 + x.n.toNat
def meetC (a b : List Nat) : List Nat := List.zipWith (fun x y => if x = y then x else 0) a b
def bringK (come : List (Option Kn)) (k : Kn) : List (Option Nat) → Option (List (Option Kn))
  | [] => some come
  | none :: _ => none
  | some j :: r => match come.getD j none with
    | none => bringK (come.set j (some k)) k r
    | some a => if a.st = k.st then bringK (come.set j (some ⟨a.st, meetC a.cl k.cl⟩)) k r else none
end Go.Proofs.YtfkdailfcmnjlaaGreatDoor

namespace Go.Proofs.YtfkdailfcmnjlaaGreatDoor
open Go Go.RowKit
set_option maxRecDepth 100000

/-- Less is known of the cells. -/
def LeC (a b : List Nat) : Prop := ∀ c, a.getD c 0 ≠ 0 → a.getD c 0 = b.getD c 0
theorem LeC.refl (a : List Nat) : LeC a a := fun _ _ => rfl
theorem LeC.trans {a b c : List Nat} (h1 : LeC a b) (h2 : LeC b c) : LeC a c := fun i h => by
  have e := h1 i h
  rw [e] at h ⊢; exact h2 i h
/-- A later state of knowledge at a place. -/
def Later (a b : Option Kn) : Prop := ∀ k, a = some k → ∃ k', b = some k' ∧ k'.st = k.st ∧ LeC k'.cl k.cl
theorem Later.refl (a : Option Kn) : Later a a := fun k h => ⟨k, h, rfl, LeC.refl _⟩
theorem Later.trans {a b c : Option Kn} (h1 : Later a b) (h2 : Later b c) : Later a c := fun k h => by
  obtain ⟨k1, e1, s1, l1⟩ := h1 k h
  obtain ⟨k2, e2, s2, l2⟩ := h2 k1 e1
  exact ⟨k2, e2, s2.trans s1, l2.trans l1⟩
theorem getD_set_ne {α : Type} {l : List α} {i j : Nat} {v d : α} (h : i ≠ j) : (l.set i v).getD j d = l.getD j d := by
  simp [List.getD_eq_getElem?_getD, List.getElem?_set_ne h]
theorem getD_set_eq {α : Type} {l : List α} {i : Nat} {v d : α} (h : i < l.length) : (l.set i v).getD i d = v := by
  simp [List.getD_eq_getElem?_getD, h]
end Go.Proofs.YtfkdailfcmnjlaaGreatDoor

namespace Go.Proofs.YtfkdailfcmnjlaaGreatDoor
open Go Go.RowKit
set_option maxRecDepth 100000

/-- A value of a type, by the type's number. -/
def HasT (t : Nat) (v : Int) : Prop := In64 v ∧ (t = 2 → v = 0 ∨ v = 1)
def TypedS : List Nat → List Int → Prop
  | [], [] => True
  | t :: ts, v :: vs => HasT t v ∧ TypedS ts vs
  | _, _ => False
theorem TypedS.len : ∀ {ts : List Nat} {vs : List Int}, TypedS ts vs → vs.length = ts.length
  | [], [], _ => rfl
  | _ :: _, _ :: _, h => by simp [TypedS.len h.2]
  | [], _ :: _, h => h.elim
  | _ :: _, [], h => h.elim
theorem TypedS.cons {t : Nat} {ts : List Nat} {vs : List Int} (h : TypedS (t :: ts) vs) : ∃ v r, vs = v :: r ∧ HasT t v ∧ TypedS ts r := by
  cases vs with
  | nil => exact h.elim
  | cons v r => exact ⟨v, r, rfl, h.1, h.2⟩
end Go.Proofs.YtfkdailfcmnjlaaGreatDoor

namespace Go.Proofs.YtfkdailfcmnjlaaGreatDoor
open Go Go.RowKit
set_option maxRecDepth 100000

/-- A condition as a tree: a word's kind, its number, which let it names; the parts under it. -/
structure Tr where
  k : Nat
  n : Int
  l : Int
  kids : List Tr
def noTr : Tr := ⟨0, 0, 0, []⟩
def Tr.kid (t : Tr) (j : Nat) : Tr := t.kids.getD j noTr
/-- The kinds of words that stand alone; that stand over two. -/
def leafK (k : Nat) : Prop := k = 1 ∨ k = 2 ∨ (20 ≤ k ∧ k ≤ 35)
def twoK (k : Nat) : Prop := k = 6 ∨ k = 7 ∨ k = 8 ∨ k = 9 ∨ k = 10 ∨ k = 17 ∨ k = 18
def ShapeT (t : Tr) : Prop := (leafK t.k ∧ t.kids = [] ∧ (t.k = 1 → In64 t.n) ∧ (t.k = 2 → 0 ≤ t.l)) ∨ (t.k = 19 ∧ ∃ a, t.kids = [a]) ∨ (t.k = 14 ∧ ∃ a b c, t.kids = [a, b, c]) ∨ (twoK t.k ∧ ∃ a b, t.kids = [a, b])
/-- A tree at most so deep. -/
def WfT : Nat → Tr → Prop
  | 0, _ => False
  | d + 1, t => ShapeT t ∧ ∀ c ∈ t.kids, WfT d c
/-- The type of a word; of a part, by those under it. -/
def wordTy (lt : List Nat) (t : Tr) : Nat := if t.k = 1 then 1 else if t.k = 2 then lt.getD t.l.toNat 0 else if 27 ≤ t.k then fieldTy (t.k - 27) else if 22 ≤ t.k then 3 else 2
def overTy (k : Nat) : List Nat → Nat
  | [a] => if a = 2 then 2 else 0
  | [a, b] => if k = 6 ∨ k = 7 then (if a = 1 ∧ b = 1 then 1 else 0) else if k = 9 ∨ k = 10 then (if a = 1 ∧ b = 1 then 2 else 0) else if k = 8 then (if a = b ∧ a ≠ 0 then 2 else 0) else (if a = 2 ∧ b = 2 then 2 else 0)
  | [a, b, c] => if a = 2 ∧ b = c then b else 0
  | _ => 0
def tyTr (lt : List Nat) : Nat → Tr → Nat
  | 0, _ => 0
  | d + 1, t => if t.kids = [] then wordTy lt t else overTy t.k (t.kids.map (tyTr lt d))
/-- What a word tells; what a part tells. -/
def kindV (fl : List Int) (k : Nat) : Int := if 27 ≤ k then fl.getD (k - 27) 0 else if 22 ≤ k then ((k - 22 : Nat) : Int) else truthI (decide (k = 20))
def wordT (lv fl : List Int) (t : Tr) : Int := if t.k = 1 then t.n else if t.k = 2 then lv.getD t.l.toNat 0 else kindV fl t.k
def two2 (k : Nat) (a b : Int) : Int :=
  if k = 6 then clampI (a + b) else if k = 7 then clampI (a - b) else if k = 8 then truthI (a == b) else if k = 10 then truthI (decide (a < b))
  else if k = 9 then truthI (decide (a ≤ b)) else if k = 18 then truthI (a == 1 && b == 1) else truthI (a == 1 || b == 1)
def overT (k : Nat) (w : Int) : List Int → Int
  | [] => w
  | [a] => 1 - a
  | [a, b] => two2 k a b
  | a :: b :: c :: _ => if a = 1 then b else c
def evT (lv fl : List Int) : Nat → Tr → Int
  | 0, _ => 0
  | d + 1, t => overT t.k (wordT lv fl t) (t.kids.map (evT lv fl d))
/-- How many parts. -/
def cntT : Nat → Tr → Nat
  | 0, _ => 0
  | d + 1, t => 1 + (t.kids.map (cntT d)).sum

/-- One tree is as good as another. -/
structure Alike (lt lt' : List Nat) (lv lv' fl : List Int) (d : Nat) (t t' : Tr) : Prop where
  wf : WfT d t'
  ty : tyTr lt' d t' = tyTr lt d t
  ev : evT lv' fl d t' = evT lv fl d t
  cnt : cntT d t' ≤ cntT d t

end Go.Proofs.YtfkdailfcmnjlaaGreatDoor

namespace Go.Proofs.YtfkdailfcmnjlaaGreatDoor
open Go Go.RowKit
set_option maxRecDepth 100000

theorem Alike.refl {lt : List Nat} {lv fl : List Int} {d : Nat} {t : Tr} (h : WfT d t) : Alike lt lt lv lv fl d t t := ⟨h, rfl, rfl, Nat.le_refl _⟩
theorem Alike.trans {lt lt' lt'' : List Nat} {lv lv' lv'' fl : List Int} {d : Nat} {t u v : Tr} (h1 : Alike lt lt' lv lv' fl d t u) (h2 : Alike lt' lt'' lv' lv'' fl d u v) : Alike lt lt'' lv lv'' fl d t v :=
  ⟨h2.wf, h2.ty.trans h1.ty, h2.ev.trans h1.ev, Nat.le_trans h2.cnt h1.cnt⟩
end Go.Proofs.YtfkdailfcmnjlaaGreatDoor

namespace Go.Proofs.YtfkdailfcmnjlaaGreatDoor
open Go Go.RowKit
set_option maxRecDepth 100000
attribute [local go_sem ↓] Go.wp_at_zero Go.wp_at_succ

/-- A part's cells. -/
structure CellsC (w : World) (b : Nat) (k : Nat) (pl : Int) (n : Int) (nm : List UInt8) (u : Value) (l : Int) : Prop where
  c0 : w.cell? ⟨b, 0, none⟩ = some (.int .i64 k)
  c1 : w.cell? ⟨b, 1, none⟩ = some (.int .i64 pl)
  c2 : w.cell? ⟨b, 2, none⟩ = some (.int .i64 n)
  c3 : w.cell? ⟨b, 3, none⟩ = some (S nm)
  c4 : w.cell? ⟨b, 4, none⟩ = some u
  c5 : w.cell? ⟨b, 5, none⟩ = some (.int .i64 l)
theorem CellsC.below {w w' : World} {b k : Nat} {pl n l : Int} {nm : List UInt8} {u : Value} (h : CellsC w b k pl n nm u l) (hb : Below w.heap.size w w') : CellsC w' b k pl n nm u l := by
  have hl : b < w.heap.size := World.block_lt_of_cell? w _ h.c0
  have e : ∀ j, w'.cell? ⟨b, j, none⟩ = w.cell? ⟨b, j, none⟩ := fun j => hb.cell (p := ⟨b, j, none⟩) hl
  exact ⟨(e 0).trans h.c0, (e 1).trans h.c1, (e 2).trans h.c2, (e 3).trans h.c3, (e 4).trans h.c4, (e 5).trans h.c5⟩
/-- The list of the parts under a part. -/
def UnderG (w : World) (u : Value) (n : Nat) (bl : Nat → Nat) : Prop := ∃ a cap, u = .slice a n cap ∧ ∀ j, j < n → ∃ g, a = some ⟨g, 0, none⟩ ∧ w.cell? ⟨g, j, none⟩ = some (.pointer (some ⟨bl j, 0, none⟩))
theorem UnderG.below {w w' : World} {u : Value} {n : Nat} {bl : Nat → Nat} (h : UnderG w u n bl) (hb : Below w.heap.size w w') : UnderG w' u n bl := by
  obtain ⟨a, cap, e, h⟩ := h
  refine ⟨a, cap, e, fun j hj => ?_⟩
  obtain ⟨g, e, c⟩ := h j hj
  exact ⟨g, e, by rw [hb.cell (p := ⟨g, j, none⟩) (World.block_lt_of_cell? w _ c)]; exact c⟩
/-- A tree lies at a block. -/
def TrAt : Nat → World → Nat → Tr → Prop
  | 0, _, _, _ => False
  | d + 1, w, b, t => ∃ (pl : Int) (nm : List UInt8) (u : Value) (bl : Nat → Nat), CellsC w b t.k pl t.n nm u t.l ∧ UnderG w u t.kids.length bl ∧ ∀ j, j < t.kids.length → TrAt d w (bl j) (t.kid j)
theorem TrAt.below {d : Nat} : ∀ {w w' : World} {b : Nat} {t : Tr}, TrAt d w b t → Below w.heap.size w w' → TrAt d w' b t := by
  induction d with
  | zero => intro w w' b t h; exact h.elim
  | succ d ih =>
    intro w w' b t h hb
    obtain ⟨pl, nm, u, bl, h1, h2, h3⟩ := h
    exact ⟨pl, nm, u, bl, h1.below hb, h2.below hb, fun j hj => ih (h3 j hj) hb⟩
end Go.Proofs.YtfkdailfcmnjlaaGreatDoor

namespace Go.Proofs.YtfkdailfcmnjlaaGreatDoor
open Go Go.RowKit
set_option maxRecDepth 100000

theorem size_builder : (Tryz.prog.info? 157).map (fun i => i.size) = some 2 := by kernel_rfl

set_option maxHeartbeats 1000000 in
theorem copyCheck_used (b : Nat) (w : World) (h0 : w.cell? ⟨b, 0, none⟩ = some (.pointer (some ⟨b, 0, none⟩))) :
    Calls Tryz.prog 118 #[.pointer (some ⟨b, 0, none⟩)] w fun e w' => e = .returned (.tuple #[]) ∧ w' = w := by
  obtain ⟨j, hj, _⟩ := Option.map_eq_some_iff.1 size_builder
  go_enter Tryz.func118, Tryz.ntmps118
  go_wp2
  rw [Lib.run_neq_ptr_same w _ Tryz.underlying154 hj]
  go_wp2
  go_end0
  exact ⟨rfl, rfl⟩
set_option maxHeartbeats 1000000 in
theorem copyCheck_fresh (b : Nat) (w : World) (h0 : w.cell? ⟨b, 0, none⟩ = some (.pointer none)) (hsh : w.shape? b = some (157, 2)) (hfz : w.frozen? ⟨b, 0, none⟩ = false) :
    Calls Tryz.prog 118 #[.pointer (some ⟨b, 0, none⟩)] w fun e w' => e = .returned (.tuple #[]) ∧ w' = w.setCell ⟨b, 0, none⟩ (.pointer (some ⟨b, 0, none⟩)) := by
  obtain ⟨j, hj, hjs⟩ := Option.map_eq_some_iff.1 size_builder
  go_enter Tryz.func118, Tryz.ntmps118
  go_wp2
  rw [Lib.run_to_unsafe w ⟨b, 0, none⟩ Tryz.underlying154 Tryz.underlying270 hj (by rw [hjs]; decide) hsh (Nat.zero_lt_succ 1)]
  simp only [Result.andThen]
  rw [Oper.upon_value]
  go_wp2
  rw [run_callFunc_extern Tryz.func162 (by kernel_rfl) (by kernel_rfl) (by kernel_rfl) (e := Extern.AbiNoEscape.same) (by kernel_rfl)]
  rw [Lib.run_noEscape]
  simp only [Result.andThen]
  rw [Oper.upon_value]
  go_wp2
  rw [Lib.run_from_unsafe w ⟨b, 0, none⟩ Tryz.underlying270 Tryz.underlying154 hj hsh extra169.liesBuilder]
  simp only [Result.andThen]
  rw [Oper.upon_value]
  go_wp2
  go_end0
  exact ⟨rfl, rfl⟩
/-- Only builders and rows of bytes turn. -/
def WF (w w' : World) : Prop := ∀ (k : Nat) (cs : Array Value) (ty : TypeId) (fr : Nat × Nat), w.heap[k]? = some (.cells cs ty fr) → ty ≠ 5 → ty ≠ 157 → w'.heap[k]? = w.heap[k]?
theorem WF.refl (w : World) : WF w w := fun _ _ _ _ _ _ _ => rfl
theorem WF.trans {w w1 w2 : World} (h : WF w w1) (k : WF w1 w2) : WF w w2 := fun j cs ty fr hj h1 h2 => by
  have e := h j cs ty fr hj h1 h2
  exact (k j cs ty fr (e.trans hj) h1 h2).trans e
theorem WF.set {w : World} {b : Nat} {cs : Array Value} {fr : Nat × Nat} (hb : w.heap[b]? = some (.cells cs 157 fr)) (j : Nat) (v : Value) : WF w (w.setCell ⟨b, j, none⟩ v) := fun k cs' ty fr' hk h1 h2 => by
  refine Below.heap_setCell _ _ _ _ ?_
  simp only
  intro e
  rw [e, hb] at hk
  simp only [Option.some.injEq, Obj.cells.injEq] at hk
  exact h2 hk.2.1.symm
theorem WF.grown {w w' : World} {base n : Nat} {v : Value} {xs : List Value} (hr : w.ownsRow base 5 1 v n xs) (hg : w.grownBy w' v.ownBlock) : WF w w' := fun k cs ty fr hk h1 h2 => by
  refine hg.block k (lt_of_get hk) fun e => ?_
  rcases hr.2 with ⟨rfl, _⟩ | ⟨g, cap, cur, rfl, _, hg', _⟩
  · simp [Value.ownBlock] at e
  · simp [Value.ownBlock] at e
    rw [e, hg'] at hk
    simp only [Option.some.injEq, Obj.cells.injEq] at hk
    exact h1 hk.2.1.symm
theorem copyCheck_any (B b : Nat) (bs : List Value) (w : World) (h : Lib.IsBuilder 157 5 B b bs w) :
    Calls Tryz.prog 118 #[.pointer (some ⟨b, 0, none⟩)] w fun e w' => e = .returned (.tuple #[]) ∧ (Lib.BuilderAt 157 5 B b (.pointer (some ⟨b, 0, none⟩)) bs w' ∧ Below B w w' ∧ WF w w') := by
  rcases h with h | h
  · refine (copyCheck_fresh b w h.cell0 h.shape h.frozen0).mono ?_
    rintro e w' ⟨rfl, rfl⟩
    exact ⟨rfl, h.used _, (Below.refl B w).setCell (p := ⟨b, 0, none⟩) h.1 _, WF.set h.2.choose_spec.1 _ _⟩
  · refine (copyCheck_used b w h.cell0).mono ?_
    rintro e w' ⟨rfl, rfl⟩
    exact ⟨rfl, h, Below.refl B _, WF.refl _⟩
set_option maxHeartbeats 2000000 in
theorem writeString_any (B b : Nat) (bs : List Value) (s : ByteArray) (w : World) (h : Lib.IsBuilder 157 5 B b bs w) (hlen : bs.length + s.size ≤ 140737488355328) (hBw : B ≤ w.heap.size) :
    Calls Tryz.prog 65 #[.pointer (some ⟨b, 0, none⟩), .string s] w fun e w' => e = .returned (.tuple #[.int .i64 s.size, .nilIface]) ∧ (Lib.BuilderAt 157 5 B b (.pointer (some ⟨b, 0, none⟩)) (bs ++ Lib.strCells s) w' ∧ Below B w w' ∧ WF w w') := by
  obtain ⟨i0, hi, hz0, hz1, hz2⟩ := info_parts extra169.infoByte
  have W1 := copyCheck_any B b bs w h
  go_enter Tryz.func65, Tryz.ntmps65
  go_wp2_with fail
  refine W1.mono ?_
  rintro e w1 ⟨rfl, h1, hb1, hW1⟩
  clear W1
  obtain ⟨hB, v, hbk, hown, hne⟩ := h1
  have c0 : w1.cell? ⟨b, 0, none⟩ = some (.pointer (some ⟨b, 0, none⟩)) := by rw [Lib.cell_of_heap hbk]; rfl
  have c1 : w1.cell? ⟨b, 1, none⟩ = some v := by rw [Lib.cell_of_heap hbk]; rfl
  go_wp2_with (at_builtin; refine Lib.wpList_append_own_string _ rfl _ _ 155 9 rfl B 5 i0 Tryz.underlying155 Tryz.underlying9 hi hz0 hz1 hz2 _ _ _ rfl hown s rfl ?c3 ?c4 ?c5 ?_)
  case c3 => unfold maxLen; omega
  case c4 => omega
  case c5 => have := hb1.size; omega
  intro v' w2 hown' hgrow _
  have hlt : b < w1.heap.size := lt_of_get hbk
  have hb2 : w2.heap[b]? = some (.cells #[.pointer (some ⟨b, 0, none⟩), v] 157 (0, 0)) := by
    rw [hgrow.block b hlt (fun e => hne e.symm)]
    exact hbk
  have d0 : w2.cell? ⟨b, 0, none⟩ = some (.pointer (some ⟨b, 0, none⟩)) := by rw [Lib.cell_of_heap hb2]; rfl
  have d1 : w2.cell? ⟨b, 1, none⟩ = some v := by rw [Lib.cell_of_heap hb2]; rfl
  have f1 : w2.frozen? ⟨b, 1, none⟩ = false := Lib.frozen_of_heap hb2 1
  obtain ⟨ao, n', cap, rfl⟩ : ∃ ao n' cap, v' = .slice ao n' cap := by
    rcases hown'.2 with ⟨hv, _⟩ | ⟨g, cap, cur, hv, _⟩
    · exact ⟨_, _, _, hv⟩
    · exact ⟨_, _, _, hv⟩
  go_wp2
  go_ret2
  refine ⟨rfl, ?_, ?_, ?_⟩
  · exact Lib.BuilderAt.put (T := 157) (e := 5) hB hb2 (bs' := bs ++ Lib.strCells s) (by simpa [Lib.strCells_length] using hown') (by decide)
  · exact (hb1.grown hgrow (by have := hb1.size; omega) (fun k hk => (hown.lt k hk).1)).setCell (p := ⟨b, 1, none⟩) hB _
  · exact (hW1.trans (WF.grown hown hgrow)).trans (WF.set hb2 _ _)
theorem builderString_any (B b : Nat) (l : List UInt8) (w : World) (h : Lib.IsBuilder 157 5 B b (Lib.byteCells l) w) (hBw : B ≤ w.heap.size) :
    Calls Tryz.prog 68 #[.pointer (some ⟨b, 0, none⟩)] w fun e w' => e = .returned (S l) ∧ Below B w w' := Any.Builder_String_any lays169 extra169 B b l w h hBw
end Go.Proofs.YtfkdailfcmnjlaaGreatDoor

namespace Go.Proofs.YtfkdailfcmnjlaaGreatDoor
open Go Go.RowKit
set_option maxRecDepth 100000
attribute [local go_sem ↓] Go.wp_at_zero Go.wp_at_succ
variable {bs : Nat}

theorem isB_below {B b : Nat} {l : List Value} {w w' : World} (h : Lib.IsBuilder 157 5 B b l w) (hb : Below w.heap.size w w') : Lib.IsBuilder 157 5 B b l w' := by
  rcases h with ⟨h1, v, h2, h3, h4⟩ | ⟨h1, v, h2, h3, h4⟩
  · exact .inl ⟨h1, v, by rw [hb.block _ (lt_of_get h2)]; exact h2, ownsRow_below h3 hb, h4⟩
  · exact .inr ⟨h1, v, by rw [hb.block _ (lt_of_get h2)]; exact h2, ownsRow_below h3 hb, h4⟩
theorem print_take {L : List Pt} {xs : List Itm} {k : Nat} (h : k < xs.length) : printL L (xs.take (k + 1)) = printL L (xs.take k) ++ itemL L (xs.getD k noItm) := by
  unfold printL
  rw [take_snoc h noItm, List.flatMap_append]; simp

theorem cells_app (l m : List UInt8) : Lib.byteCells l ++ Lib.strCells (ByteArray.mk m.toArray) = Lib.byteCells (l ++ m) := by
  simp [Lib.byteCells, Lib.strCells]
theorem cells_len (l : List UInt8) : (Lib.byteCells l).length = l.length := by simp [Lib.byteCells]
theorem head_len (x : Itm) (h : x.name.length ≤ 1000) : (headL x).length ≤ 1010 := by
  unfold headL wsAllow wsDeny wsLet wsEq
  split
  · split <;> simp
  · simp; omega

set_option maxHeartbeats 8000000 in
theorem plain_any {L : List Pt} {N : Tok → Int → Prop} (hL : PlainOK L) {xs : List Itm} {ys : List (Tok × Tok × Nat × Int)} {base : Nat} {v : Value} {w : World} (hrow : w.ownsRow base 163 10 v ys.length (iCells ys)) (hy : ys.length ≤ 1001)
    (hit : ItemsAt (CondS bs L N w) xs ys) (htr : TreesAt L xs 0) (hnm : ∀ x ∈ xs, x.name.length ≤ 1000) (hS : Sp w) (hTb : Tb w) :
    Calls Tryz.prog 34 #[v] w fun e w' => e = .returned (S (printL L xs)) ∧ Below w.heap.size w w' := by
  obtain ⟨a, cap, rfl, hcell⟩ := row_cells hrow
  have hlen : Hid _ := hit.len
  have HC : Hid _ := hcell
  have HT : Hid _ := hit
  have HTR : Hid _ := htr
  have HL : Hid _ := hL
  have HNM : Hid _ := hnm
  have HS : Hid (Sp w) := hS
  have HTB : Hid (Tb w) := hTb
  clear hrow hcell hit htr hL hnm hS hTb
  go_enter Tryz.func34, Tryz.ntmps34
  have hB0 : Below w.heap.size w (w.alloc (.cells #[.pointer none, .slice none 0 0] 157)) := (Below.refl _ _).alloc (Nat.le_refl _) _
  have hI0 : Lib.IsBuilder 157 5 w.heap.size w.heap.size (Lib.byteCells []) (w.alloc (.cells #[.pointer none, .slice none 0 0] 157)) := .inl ⟨Nat.le_refl _, _, heap_alloc_new w _, World.ownsRow_nil _ _ _ _, by simp [Value.ownBlock]⟩
  go_wp2_with fail
  generalize w.alloc (.cells #[.pointer none, .slice none 0 0] 157) = wz at *
  generalize hbb : w.heap.size = bb at *
  have HBB : Hid _ := hbb
  clear hbb
  go_loopw [8] (fun kv wr => ∃ k fr l, k ≤ ys.length ∧ kv = .int .i64 k ∧ Hid (l = printL L (xs.take k)) ∧ l.length ≤ 6000000 * k ∧ Hid (TreesAt L (xs.drop k) fr) ∧ Hid (ItemsAt (CondS bs L N w) (xs.drop k) (ys.drop k)) ∧ Lib.IsBuilder 157 5 bb bb (Lib.byteCells l) wr ∧ Below bb w wr) (fun kv _ => ys.length - (intOf kv).toNat)
  case atStart => exact ⟨0, 0, [], Nat.zero_le _, rfl, rfl, by simp, HTR.out, HT.out, hI0, hB0⟩
  case round =>
    obtain ⟨k, fr, l, hk, rfl, HM, hll, HTR2, HIT2, hisb, hbw⟩ := hrel
    by_cases hlt : k < ys.length
    · have hltx : k < xs.length := by rw [← hlen.out]; exact hlt
      have ht2 := HTR2.out
      have hi2 := HIT2.out
      rw [drop_head hltx noItm] at ht2 hi2
      rw [drop_head hlt (zTok, zTok, 0, 0)] at hi2
      obtain ⟨g, rfl, ⟨gcs, hgc⟩, hcells⟩ := HC.out k hlt
      have HPT : Hid _ := print_take (L := L) hltx
      have hxn : (xs.getD k noItm).name.length ≤ 1000 := HNM.out _ (by rw [List.getD_eq_getElem?_getD, List.getElem?_eq_getElem hltx]; exact List.getElem_mem hltx)
      generalize xs.getD k noItm = x at *
      generalize ys.getD k (zTok, zTok, 0, 0) = y at *
      obtain ⟨⟨hCd, hO⟩, hi2⟩ := hi2
      obtain ⟨hTr, hpt, ht2⟩ := ht2
      obtain ⟨t0, u0, b, wh⟩ := y
      simp only [] at hCd hO
      have hw0 : w.heap.size ≤ wr.heap.size := hbw.size
      have hbw' : Below w.heap.size w wr := by rw [HBB.out]; exact hbw
      have hct : ∀ j, j < 10 → wr.cell? ⟨g, k * 10 + j, none⟩ = (icell (t0, u0, b, wh))[j]? := fun j hj => by
        rw [hbw'.cell (p := ⟨g, k * 10 + j, none⟩) (lt_of_get hgc)]; exact hcells j hj
      have c0 : wr.cell? ⟨g, k * 10, none⟩ = some (.int .i64 (kindOf t0)) := hct 0 (by omega)
      have c1 : wr.cell? ⟨g, k * 10 + 1, none⟩ = some (.int .i64 t0.pl) := hct 1 (by omega)
      have c2 : wr.cell? ⟨g, k * 10 + 2, none⟩ = some (.int .i64 (nmOf t0)) := hct 2 (by omega)
      have c3 : wr.cell? ⟨g, k * 10 + 3, none⟩ = some (S (ownOf t0)) := hct 3 (by omega)
      have c4 : wr.cell? ⟨g, k * 10 + 4, none⟩ = some (.int .i64 (kindOf u0)) := hct 4 (by omega)
      have c5 : wr.cell? ⟨g, k * 10 + 5, none⟩ = some (.int .i64 u0.pl) := hct 5 (by omega)
      have c6 : wr.cell? ⟨g, k * 10 + 6, none⟩ = some (.int .i64 (nmOf u0)) := hct 6 (by omega)
      have c7 : wr.cell? ⟨g, k * 10 + 7, none⟩ = some (S (ownOf u0)) := hct 7 (by omega)
      have c8 : wr.cell? ⟨g, k * 10 + 8, none⟩ = some (.int .i64 wh) := hct 8 (by omega)
      have c9 : wr.cell? ⟨g, k * 10 + 9, none⟩ = some (.pointer (some ⟨b, 0, none⟩)) := hct 9 (by omega)
      have hTF := hTr.fit
      have hpl := TreeF.plain_len HL.out.short hTF
      have hxl := hTF.lt
      have hfew := HL.out.few
      have hpl2 : (plainF (x.top + 1) L x.top).length ≤ 5500000 := Nat.le_trans hpl (Nat.le_trans (Nat.mul_le_mul_left _ (show x.top + 1 - fr ≤ 5000 by omega)) (by decide))
      have hhl := head_len x hxn
      have hb1 : Below wr.heap.size wr (wr.alloc (itObjW t0 u0 wh (.pointer (some ⟨b, 0, none⟩)))) := (Below.refl _ _).alloc (Nat.le_refl _) _
      have hB1 : Below w.heap.size w (wr.alloc (itObjW t0 u0 wh (.pointer (some ⟨b, 0, none⟩)))) := hbw'.trans (hb1.mono hw0)
      have hz1 : (wr.alloc (itObjW t0 u0 wh (.pointer (some ⟨b, 0, none⟩)))).heap[wr.heap.size]? = some (itObjW t0 u0 wh (.pointer (some ⟨b, 0, none⟩))) := heap_alloc_new wr _
      have hI1 := isB_below hisb hb1
      have W1 := head_any (b := b) (n := wh) hO hxn (wr.alloc (itObjW t0 u0 wh (.pointer (some ⟨b, 0, none⟩)))) (Sp.below HS.out (Sp.pos HS.out) hB1)
      unfold itW at W1
      have HIT3 : Hid _ := hi2
      have HTR3 : Hid _ := ht2
      have HCD : Hid _ := hCd
      have HTF : Hid _ := hTF
      have HEI : Hid (itemL L x = headL x ++ plainF (x.top + 1) L x.top ++ [59, 10]) := rfl
      clear hcells hct hTr hTF hi2 ht2 hCd hO hpl hbw hisb hgc
      unfold itObjW at hb1 hB1 hz1 hI1 W1
      generalize headL x = hd at *
      generalize kindOf t0 = q0 at *
      generalize t0.pl = q1 at *
      generalize nmOf t0 = q2 at *
      generalize ownOf t0 = q3 at *
      generalize kindOf u0 = q4 at *
      generalize u0.pl = q5 at *
      generalize nmOf u0 = q6 at *
      generalize ownOf u0 = q7 at *
      go_wp2_with fail
      refine W1.mono ?_
      rintro e w1 ⟨rfl, hb2⟩
      clear W1 c0 c1 c2 c3 c4 c5 c6 c7 c8 c9
      have hB2 := hB1.trans (hb2.mono hB1.size)
      have hz2 := (hb2.block _ (lt_of_get hz1)).trans hz1
      have hs2 := hB2.size
      rw [HBB.out] at hs2
      have W2 := writeString_any bb bb (Lib.byteCells l) ⟨hd.toArray⟩ w1 (isB_below hI1 hb2) (by rw [cells_len]; simp [ByteArray.size]; omega) hs2
      rw [cells_app] at W2
      clear hb1 hB1 hz1 hI1 hb2
      have HB2 : Hid _ := hB2
      have HZ2 : Hid _ := hz2
      clear hB2 hz2
      go_wp2_with fail
      refine W2.mono ?_
      rintro e w2 ⟨rfl, hI3, hb3, hW3⟩
      clear W2
      have hz3 := (hW3 _ _ _ _ HZ2.out (by decide) (by decide)).trans HZ2.out
      have hB3 : Below w.heap.size w w2 := HB2.out.trans (by rw [HBB.out]; exact hb3)
      obtain ⟨⟨z0, z1, z2, z3, z4, z5, z6, z7, z8, z9⟩, zf⟩ := it_cells hz3
      have W3 := pplain_any HL.out (x.top + 1) HTF.out (HCD.out.grow hB3) (Sp.below HS.out (Sp.pos HS.out) hB3) (Tb.below HTB.out hB3)
      have HB3 : Hid _ := hB3
      have hI3' : Hid (Lib.IsBuilder 157 5 bb bb (Lib.byteCells (l ++ hd)) w2) := .inr hI3
      clear hz3 hB3 hI3 hb3 hW3 HZ2 HB2
      generalize plainF (x.top + 1) L x.top = pl at *
      go_wp2_with fail
      refine W3.mono ?_
      rintro e w3 ⟨rfl, hb4⟩
      clear W3 z0 z1 z2 z3 z4 z5 z6 z7 z8 z9 zf
      have hB4 := HB3.out.trans (hb4.mono HB3.out.size)
      have hs4 := hB4.size
      rw [HBB.out] at hs4
      have W4 := writeString_any bb bb (Lib.byteCells (l ++ hd)) ⟨pl.toArray⟩ w3 (isB_below hI3'.out hb4) (by rw [cells_len]; simp [ByteArray.size]; omega) hs4
      rw [cells_app] at W4
      have HB4 : Hid _ := hB4
      clear hB4 hb4 hI3'
      go_wp2_with fail
      refine W4.mono ?_
      rintro e w4 ⟨rfl, hI5, hb5, _⟩
      clear W4
      have hB5 : Below w.heap.size w w4 := HB4.out.trans (by rw [HBB.out]; exact hb5)
      have hs5 := hB5.size
      rw [HBB.out] at hs5
      have W5 := writeString_any bb bb (Lib.byteCells (l ++ hd ++ pl)) ⟨[59, 10].toArray⟩ w4 (.inr hI5) (by rw [cells_len]; simp [ByteArray.size]; omega) hs5
      rw [cells_app] at W5
      have HB5 : Hid _ := hB5
      clear hB5 hb5 hI5
      go_wp2_with fail
      refine W5.mono ?_
      rintro e w5 ⟨rfl, hI6, hb6, _⟩
      clear W5
      have hB6 : Below bb w w5 := by
        have := HB5.out
        rw [HBB.out] at this
        exact this.trans hb6
      go_wp2_with fail
      go_roundw
      case rel =>
        refine ⟨k + 1, x.parts, l ++ hd ++ pl ++ [59, 10], by omega, by simp, ?_, by simp; omega, HTR3.out, HIT3.out, .inr hI6, hB6⟩
        show _ = _
        rw [HPT.out, HEI.out, HM.out]; simp
      case measure => simp [intOf]; omega
    · have hke : k = ys.length := by omega
      subst hke
      have hsz : bb ≤ wr.heap.size := by have := hbw.size; rw [HBB.out] at this; exact this
      have W1 := builderString_any bb bb l wr hisb hsz
      have HE : Hid (l = printL L xs) := by
        have := HM.out
        rw [List.take_of_length_le (by rw [hlen.out]; exact Nat.le_refl _)] at this
        exact this
      clear hisb
      go_wp2_with fail
      refine W1.mono ?_
      rintro e w1 ⟨rfl, hb1⟩
      clear W1
      go_wp2_with fail
      go_ret
      refine ⟨by rw [← HE.out]; rfl, ?_⟩
      rw [HBB.out]; exact hbw.trans hb1
end Go.Proofs.YtfkdailfcmnjlaaGreatDoor

namespace Go.Proofs.YtfkdailfcmnjlaaGreatDoor
open Go Go.RowKit
set_option maxRecDepth 100000
attribute [local go_sem ↓] Go.wp_at_zero Go.wp_at_succ

theorem rba_cat (a b : List UInt8) : (ByteArray.mk a.toArray ++ ByteArray.mk b.toArray) = ByteArray.mk (a ++ b).toArray := by
  apply ByteArray.ext
  simp
theorem wrap_small {x : Int} (h0 : 0 ≤ x) (h1 : x ≤ 9223372036854775807) : IntKind.i64.wrap x = x := by
  simp [IntKind.wrap, IntKind.signed, IntKind.bits]
  omega
end Go.Proofs.YtfkdailfcmnjlaaGreatDoor

namespace Go.Proofs.YtfkdailfcmnjlaaGreatDoor
open Go Go.RowKit
set_option maxRecDepth 100000
attribute [local go_sem ↓] Go.wp_at_zero Go.wp_at_succ

theorem pread_any (l : List UInt8) (w : World) (hW : Wd w) (hm : l.length ≤ maxLen) : Calls Tryz.prog 32 #[S l] w (RdAns (readOf l).1.1 (readOf l).1.2 (readOf l).2.1 (readOf l).2.2 w) := by
  unfold readOf
  by_cases h1 : 1000 < l.length
  · rw [if_pos h1]; exact pread_long l w h1 hm _ _
  · rw [if_neg h1]
    cases hx : (lex (l.length + 1) l 0).2 with
    | some p => exact pread_word l w hW (by omega) (lex (l.length + 1) l 0).1 p (by rw [← hx]) _ _
    | none =>
      have hlex : lex (l.length + 1) l 0 = ((lex (l.length + 1) l 0).1, none) := by rw [← hx]
      obtain ⟨r1, r2, r3, r4, r5⟩ := lex_ok l (by omega) (l.length + 1) 0 _ (Nat.zero_le _) (by omega) hlex
      generalize (lex (l.length + 1) l 0).1 = ts at *
      obtain ⟨R, hR⟩ := parse_total (F := 16 * ts.length + 8) (Nat.le_refl _) r4 (ts.length + 1) 0 [] [] (by omega)
      have e : allOf ts = R := by unfold allOf; rw [hR]; rfl
      rw [e]
      exact pread_items l w hW (by omega) ts hlex hR
theorem read_bound (l : List UInt8) : (readOf l).1.1 ≤ 6 := by
  unfold readOf
  split
  · simp
  · split
    · simp
    · unfold verdictOf
      repeat' split
      all_goals simp

set_option maxHeartbeats 1000000 in
theorem check_prog (l : List UInt8) (w : World) (hW : Wd w) (hm : l.length ≤ maxLen) : Calls Tryz.prog 11 #[S l] w fun e w' => e = .returned (.tuple #[.int .i64 (readOf l).1.1, .int .i64 (readOf l).1.2]) ∧ Below w.heap.size w w' := by
  have HR := pread_any l w hW hm
  generalize (readOf l).1.1 = n at *
  generalize (readOf l).1.2 = k at *
  generalize (readOf l).2.1 = L at *
  generalize (readOf l).2.2 = xs at *
  go_enter Tryz.func11, Tryz.ntmps11
  go_wp2_with fail
  refine HR.mono ?_
  rintro e w1 ⟨hf, v, rfl, _⟩
  clear HR
  go_wp2_with fail
  refine bodyPost_ret (v := .tuple #[.int .i64 n, .int .i64 k]) (by simp [results, Tryz.results11, go_sem]) rfl ?_
  exact ⟨rfl, hf⟩
end Go.Proofs.YtfkdailfcmnjlaaGreatDoor

namespace Go.Proofs.YtfkdailfcmnjlaaGreatDoor
open Go Go.RowKit
set_option maxRecDepth 100000

theorem item_name {F : Nat} {ts : List Tok} {i : Nat} {L : List Pt} {r : ItR} (h : itemP F ts i L = some r) (ok : r.ok = true) : r.it.name = [] ∨ ∃ t ∈ ts, r.it.name = t.text := by
  have tail : ∀ (j : Nat) (x : Itm), itemTail F ts j L x = some r → r.it.name = x.name := by
    intro j x hr
    obtain ⟨a, ha, hres⟩ := tail_parts hr
    rcases hres with ⟨oka, hw, rfl⟩ | ⟨_, hr1, _⟩
    · rfl
    · rw [hr1] at ok; simp at ok
  unfold itemP at h
  split at h
  · split at h
    · rename_i hk
      split at h
      · have hm := (inside (ts := ts) (i := i + 1) fun e => by rw [e] at hk; exact absurd hk (by decide)).2
        exact .inr ⟨_, hm, tail _ _ h⟩
      · simp [itFail] at h; subst h; simp at ok
    · simp [itFail] at h; subst h; simp at ok
  · split at h
    · split at h
      · exact .inl (tail _ _ h)
      · simp [itFail] at h; subst h; simp at ok
    · simp [itFail] at h; subst h; simp at ok
theorem parse_named {F : Nat} {ts : List Tok} (g : Nat) : ∀ (i : Nat) (L : List Pt) (xs : List Itm) (R : AllR), (∀ x ∈ xs, x.name = [] ∨ ∃ t ∈ ts, x.name = t.text) → parseAll F ts g i L xs = some R → R.ok = true → ∀ x ∈ R.xs, x.name = [] ∨ ∃ t ∈ ts, x.name = t.text := by
  induction g with
  | zero => intro i L xs R _ h; rw [parseAll] at h; simp at h
  | succ g ih =>
    intro i L xs R hT h ok
    by_cases hk : (tokAt ts i).k = 101
    · have := parse_end h hk; subst this; exact hT
    · rw [parseAll, if_neg hk] at h
      cases hr : itemP F ts i L with
      | none => rw [hr] at h; simp at h
      | some r =>
        rw [hr] at h
        simp only at h
        by_cases okr : r.ok = true
        · rw [if_pos okr] at h
          refine ih r.i r.L (xs ++ [r.it]) R (fun x hx => ?_) h ok
          rcases List.mem_append.1 hx with hx | hx
          · exact hT x hx
          · rw [List.mem_singleton] at hx; subst hx; exact item_name hr okr
        · rw [if_neg okr] at h; simp at h; subst h; simp at ok

/-- What a text that was read gives for its plain form. -/
structure PrintOK (L : List Pt) (xs : List Itm) : Prop where
  parts : PlainOK L
  trees : TreesAt L xs 0
  names : ∀ x ∈ xs, x.name.length ≤ 1000
theorem print_known (l : List UInt8) (h0 : (readOf l).1.1 = 0) : PrintOK (readOf l).2.1 (readOf l).2.2 := by
  unfold readOf at *
  by_cases h1 : 1000 < l.length
  · rw [if_pos h1] at h0; simp at h0
  · rw [if_neg h1] at h0 ⊢
    cases hx : (lex (l.length + 1) l 0).2 with
    | some p => rw [hx] at h0; simp at h0
    | none =>
      rw [hx] at h0
      simp only [] at h0 ⊢
      have hlex : lex (l.length + 1) l 0 = ((lex (l.length + 1) l 0).1, none) := by rw [← hx]
      obtain ⟨r1, r2, r3, r4, r5⟩ := lex_ok l (by omega) (l.length + 1) 0 _ (Nat.zero_le _) (by omega) hlex
      obtain ⟨hwo, hwl⟩ := lex_words l (l.length + 1) 0 _ (Nat.zero_le _) (by omega) hlex
      generalize (lex (l.length + 1) l 0).1 = ts at *
      obtain ⟨R, hR⟩ := parse_total (F := 16 * ts.length + 8) (Nat.le_refl _) r4 (ts.length + 1) 0 [] [] (by omega)
      have e : allOf ts = R := by unfold allOf; rw [hR]; rfl
      rw [e] at h0 ⊢
      have ok : R.ok = true := by
        cases hk : R.ok with
        | true => rfl
        | false => unfold verdictOf at h0; rw [if_pos hk] at h0; simp at h0
      obtain ⟨k1, k2, k3⟩ := all_known hwo (by omega) hR ok
      obtain ⟨_, k4, _, _⟩ := parse_trees hwo.sorted _ 0 [] [] R rfl ⟨by simp, by simp, by simp⟩ (by simp) (by omega) hR ok
      have k5 := parse_named _ 0 [] [] R (by simp) hR ok
      refine ⟨⟨k3, fun k hk => (r3 _ (k4.2.2 k hk)).1, fun k hk hn => ((r3 _ (k4.2.2 k hk)).2 hn).2, k2.few⟩, k1, fun x hx => ?_⟩
      rcases k5 x hx with h | ⟨t, ht, h⟩
      · rw [h]; simp
      · rw [h]; exact (r3 t ht).1

end Go.Proofs.YtfkdailfcmnjlaaGreatDoor

namespace Go.Proofs.YtfkdailfcmnjlaaGreatDoor
open Go Go.RowKit
set_option maxRecDepth 100000
attribute [local go_sem ↓] Go.wp_at_zero Go.wp_at_succ

def intCells (l : List Int) : List Value := l.map fun v => Value.int .i64 v
/-- The policy lies in memory, what the items so far told, and the fields. -/
structure TelIn (B gi c g cap gf : Nat) (xs : List Itm) (ps : List PartS) (bv : Value) (vals fl : List Int) (w : World) : Prop where
  items : ItemsIn B (.slice (some ⟨gi, 0, none⟩) xs.length c) xs w
  parts : PartsIn B g cap ps w
  row : w.ownsRow B 2 1 bv vals.length (intCells vals)
  len : vals.length ≤ xs.length
  fields : ∀ i, i < 9 → w.cell? ⟨gf, i, none⟩ = some (.int .i64 (fl.getD i 0))
theorem TelIn.below {B gi c g cap gf : Nat} {xs : List Itm} {ps : List PartS} {bv : Value} {vals fl : List Int} {w w' : World} (h : TelIn B gi c g cap gf xs ps bv vals fl w) (hb : Below w.heap.size w w') : TelIn B gi c g cap gf xs ps bv vals fl w' :=
  ⟨h.items.below hb, h.parts.below hb, ownsRow_below h.row hb, h.len, fun i hi => by rw [hb.cell (p := ⟨gf, i, none⟩) (World.block_lt_of_cell? w _ (h.fields i hi))]; exact h.fields i hi⟩
end Go.Proofs.YtfkdailfcmnjlaaGreatDoor

namespace Go.Proofs.YtfkdailfcmnjlaaGreatDoor
open Go Go.RowKit
set_option maxRecDepth 100000
attribute [local go_sem ↓] Go.wp_at_zero Go.wp_at_succ

/-- What Print answers. -/
def textOf (l : List UInt8) : List UInt8 := if (readOf l).1.1 = 0 then printL (readOf l).2.1 (readOf l).2.2 else []
end Go.Proofs.YtfkdailfcmnjlaaGreatDoor

namespace Go.Proofs.YtfkdailfcmnjlaaGreatDoor
open Go Go.RowKit
set_option maxRecDepth 100000
attribute [local go_sem ↓] Go.wp_at_zero Go.wp_at_succ

theorem verdict_zero (ts : List Tok) (R : AllR) (h : (verdictOf ts R).1 = 0) : (verdictOf ts R).2 = 0 := by
  unfold verdictOf at *
  repeat' split at h
  all_goals simp_all
theorem read_zero (l : List UInt8) (h : (readOf l).1.1 = 0) : (readOf l).1.2 = 0 := by
  unfold readOf at *
  by_cases h1 : 1000 < l.length
  · rw [if_pos h1] at h; simp at h
  · rw [if_neg h1] at h ⊢
    cases hx : (lex (l.length + 1) l 0).2 with
    | some p => rw [hx] at h; simp at h
    | none =>
      rw [hx] at h
      exact verdict_zero _ _ h
set_option maxHeartbeats 2000000 in
theorem print_prog (l : List UInt8) (w : World) (hW : Wd w) (hT : Tb w) (hm : l.length ≤ maxLen) : Calls Tryz.prog 14 #[S l] w fun e w' => e = .returned (.tuple #[S (textOf l), .int .i64 (readOf l).1.1, .int .i64 (readOf l).1.2]) ∧ Below w.heap.size w w' := by
  have HR := pread_any l w hW hm
  have HK : Hid ((readOf l).1.1 = 0 → PrintOK (readOf l).2.1 (readOf l).2.2) := print_known l
  have HX : Hid (textOf l = if (readOf l).1.1 = 0 then printL (readOf l).2.1 (readOf l).2.2 else []) := rfl
  have HZ : Hid ((readOf l).1.1 = 0 → (readOf l).1.2 = 0) := read_zero l
  have HW : Hid (Wd w) := hW
  have HT : Hid (Tb w) := hT
  have hb := read_bound l
  clear hW hT
  generalize textOf l = r at *
  generalize (readOf l).1.1 = n at *
  generalize (readOf l).1.2 = k at *
  generalize (readOf l).2.1 = L at *
  generalize (readOf l).2.2 = xs at *
  go_enter Tryz.func14, Tryz.ntmps14
  go_wp2_with fail
  refine HR.mono ?_
  rintro e w1 ⟨hf, v, rfl, hv⟩
  clear HR
  by_cases h0 : n = 0
  · obtain ⟨bs, ys, hbs, hP⟩ := hv h0
    have hk := HK.out h0
    have W1 := plain_any hk.parts hP.row hP.few hP.items hP.trees hk.names (Sp.below HW.out.1 (Sp.pos HW.out.1) hf) (Tb.below HT.out hf)
    have HX2 : Hid (r = printL L xs) := by show _ = _; rw [HX.out, if_pos h0]
    have HZ2 : Hid _ := HZ.out h0
    have HF : Hid _ := hf
    clear hv hP hk HK HX HZ hf
    subst h0
    generalize printL L xs = pr at *
    go_wp2_with fail
    refine W1.mono ?_
    rintro e w2 ⟨rfl, hb2⟩
    clear W1
    go_wp2_with fail
    refine bodyPost_ret (v := .tuple #[S pr, .int .i64 0, .int .i64 0]) (by simp [results, Tryz.results14, go_sem]) rfl ?_
    exact ⟨by rw [HX2.out, HZ2.out]; rfl, HF.out.trans (hb2.mono HF.out.size)⟩
  · have e1 : ((n : Int) == 0) = false := by
      have : ¬ (n : Int) = 0 := by omega
      simpa using this
    have e2 : ((n : Int) != 0) = true := by
      have : ¬ (n : Int) = 0 := by omega
      simpa using this
    have HX2 : Hid (r = []) := by show _ = _; rw [HX.out, if_neg h0]
    have HF : Hid _ := hf
    clear hv HK HX HZ hf h0
    go_wp2_with fail
    refine bodyPost_ret (v := .tuple #[S [], .int .i64 n, .int .i64 k]) (by simp [results, Tryz.results14, go_sem]) rfl ?_
    exact ⟨by rw [HX2.out], HF.out⟩

end Go.Proofs.YtfkdailfcmnjlaaGreatDoor

namespace Go.Proofs.YtfkdailfcmnjlaaGreatDoor
open Go Go.RowKit
set_option maxRecDepth 100000

/-- The first rule that tells true, and its number. -/
def meanL (xs : List Itm) (fl : List Int) (L : List Pt) : List Itm → List Int → Nat → Option (Bool × Nat)
  | [], _, _ => none
  | x :: r, vals, n =>
    if x.name = [] then (if tellF xs vals fl L (x.top + 1) x.top = 1 then some (x.allow, n + 1) else meanL xs fl L r (vals ++ [tellF xs vals fl L (x.top + 1) x.top]) (n + 1))
    else meanL xs fl L r (vals ++ [tellF xs vals fl L (x.top + 1) x.top]) n
/-- What Mean answers of a text. -/
def meanOf (l : List UInt8) (fl : List Int) : Bool × Nat := if (readOf l).1.1 = 0 then (meanL (readOf l).2.2 fl (readOf l).2.1 (readOf l).2.2 [] 0).getD (false, 0) else (false, 0)

/-- At an item, with what the ones ahead told. -/
def MeanAt (xs : List Itm) (L : List Pt) (j : Nat) (vals : List Int) : Prop :=
  ∃ its fr, ValsOK its vals ∧ its.length = j ∧ TreesAt L (xs.drop j) fr ∧ namesAt xs L (xs.drop j) fr j = none ∧ typesAt xs L (xs.drop j) its = none
theorem MeanAt.next {xs : List Itm} {L : List Pt} {fl : List Int} {j : Nat} {vals : List Int} (hL : PartsOK L) (hP : PlainOK L) (hF : FieldsOK fl) (h : MeanAt xs L j vals) (hj : j < xs.length) :
    MeanAt xs L (j + 1) (vals ++ [tellF xs vals fl L (xs[j].top + 1) xs[j].top]) := by
  obtain ⟨its, fr, hV, hl, hT, hN, hY⟩ := h
  rw [List.drop_eq_getElem_cons hj] at hT hN hY
  obtain ⟨hg, hn2⟩ := names_given hL hT.1 hT.2.1 hN
  rw [typesAt] at hY
  by_cases hc : (tyOf xs its L (xs[j].top + 1) xs[j].top).toNat = 0 ∨ (xs[j].name = [] ∧ (tyOf xs its L (xs[j].top + 1) xs[j].top).toNat ≠ 116)
  · rw [if_pos hc] at hY; simp at hY
  · rw [if_neg hc] at hY
    refine ⟨its ++ [tyOf xs its L (xs[j].top + 1) xs[j].top], xs[j].parts, hV.snoc ?_, by simp [hl], hT.2.2, hn2, hY⟩
    refine tell_has hV hF hP.num _ hT.1.fit (by rw [hl]; exact hg) fun e => hc (.inl (by rw [e]; rfl))
end Go.Proofs.YtfkdailfcmnjlaaGreatDoor

namespace Go.Proofs.YtfkdailfcmnjlaaGreatDoor
open Go Go.RowKit
set_option maxRecDepth 100000

/-- At an item, with what the ones ahead told, and their types. -/
def MeanAt2 (xs : List Itm) (L : List Pt) (j : Nat) (vals : List Int) : Prop :=
  ∃ its fr, ValsOK its vals ∧ its.length = j ∧ TreesAt L (xs.drop j) fr ∧ namesAt xs L (xs.drop j) fr j = none ∧ typesAt xs L (xs.drop j) its = none ∧ ∀ c ∈ its, isTy c
theorem MeanAt2.next {xs : List Itm} {L : List Pt} {fl : List Int} {j : Nat} {vals : List Int} (hL : PartsOK L) (hP : PlainOK L) (hF : FieldsOK fl) (h : MeanAt2 xs L j vals) (hj : j < xs.length) :
    MeanAt2 xs L (j + 1) (vals ++ [tellF xs vals fl L ((xs.getD j noItm).top + 1) (xs.getD j noItm).top]) := by
  obtain ⟨its, fr, hV, hl, hT, hN, hY, hI⟩ := h
  rw [drop_head hj noItm] at hT hN hY
  obtain ⟨hg0, hn2⟩ := names_given hL hT.1 hT.2.1 hN
  have hg : Given xs its.length L fr ((xs.getD j noItm).top + 1) := by rw [hl]; exact hg0
  rw [typesAt] at hY
  by_cases hc : (tyOf xs its L ((xs.getD j noItm).top + 1) (xs.getD j noItm).top).toNat = 0 ∨ ((xs.getD j noItm).name = [] ∧ (tyOf xs its L ((xs.getD j noItm).top + 1) (xs.getD j noItm).top).toNat ≠ 116)
  · rw [if_pos hc] at hY; simp at hY
  · rw [if_neg hc] at hY
    have hne : tyOf xs its L ((xs.getD j noItm).top + 1) (xs.getD j noItm).top ≠ 0 := fun e => hc (.inl (by rw [e]; rfl))
    refine ⟨its ++ [tyOf xs its L ((xs.getD j noItm).top + 1) (xs.getD j noItm).top], (xs.getD j noItm).parts, hV.snoc ?_, by simp [hl], hT.2.2, hn2, hY, ?_⟩
    · exact tell_has hV hF hP.num _ hT.1.fit hg hne
    · intro c hcm
      simp only [List.mem_append, List.mem_singleton] at hcm
      rcases hcm with hcm | rfl
      · exact hI c hcm
      · rcases tyOf_ty hP.tokw hI _ hT.1.fit hg with h0 | h0
        · exact absurd h0 hne
        · exact h0
end Go.Proofs.YtfkdailfcmnjlaaGreatDoor

namespace Go.Proofs.YtfkdailfcmnjlaaGreatDoor
open Go Go.RowKit
set_option maxRecDepth 100000
attribute [local go_sem ↓] Go.wp_at_zero Go.wp_at_succ

theorem PolAt.below {bs : Nat} {L : List Pt} {xs : List Itm} {base : Nat} {v : Value} {ys : List (Tok × Tok × Nat × Int)} {w w' : World} (h : PolAt bs L xs base v ys w) (hb : Below w.heap.size w w') : PolAt bs L xs base v ys w' :=
  ⟨ownsRow_below h.row hb, h.few, h.items.grow hb, h.trees, h.parts, h.tokw, h.names, h.types, h.numb, h.many⟩
end Go.Proofs.YtfkdailfcmnjlaaGreatDoor

namespace Go.Proofs.YtfkdailfcmnjlaaGreatDoor
open Go Go.RowKit
set_option maxRecDepth 100000
attribute [local go_sem ↓] Go.wp_at_zero Go.wp_at_succ

/-- A row of pairs. -/
structure PairRow (w : World) (g : Nat) (ty : TypeId) (k : Nat) (f : Nat → List UInt8 × Int) : Prop where
  blk : ∃ cs, w.heap[g]? = some (.cells cs ty (0, 0)) ∧ cs.size = k * 2
  fst : ∀ j, j < k → w.cell? ⟨g, j * 2, none⟩ = some (S (f j).1)
  snd : ∀ j, j < k → w.cell? ⟨g, j * 2 + 1, none⟩ = some (.int .i64 (f j).2)
theorem PairRow.of_block {w w' : World} {g : Nat} {ty : TypeId} {k : Nat} {f : Nat → List UInt8 × Int} (h : PairRow w g ty k f) (hb : w'.heap[g]? = w.heap[g]?) : PairRow w' g ty k f :=
  ⟨by rw [hb]; exact h.blk, fun j hj => by rw [World.cell?_of_block (w := w) (a := ⟨g, j * 2, none⟩) hb]; exact h.fst j hj, fun j hj => by rw [World.cell?_of_block (w := w) (a := ⟨g, j * 2 + 1, none⟩) hb]; exact h.snd j hj⟩
theorem PairRow.put {w : World} {g : Nat} {ty : TypeId} {k : Nat} {f f' : Nat → List UInt8 × Int} (h : PairRow w g ty k f) {j : Nat} (hj : j < k) {x : List UInt8} {y : Int} (he : f' j = (x, y)) (ho : ∀ i, i < k → i ≠ j → f' i = f i) : PairRow ((w.setCell ⟨g, j * 2, none⟩ (S x)).setCell ⟨g, j * 2 + 1, none⟩ (.int .i64 y)) g ty k f' := by
  obtain ⟨cs, hc, hs⟩ := h.blk
  have e1 := heap_setCell_same w g (j * 2) cs ty (S x) hc
  have e2 := heap_setCell_same _ g (j * 2 + 1) _ ty (.int .i64 y) e1
  have hcell : ∀ q, ((w.setCell ⟨g, j * 2, none⟩ (S x)).setCell ⟨g, j * 2 + 1, none⟩ (.int .i64 y)).cell? ⟨g, q, none⟩ = if q = j * 2 + 1 then some (.int .i64 y) else if q = j * 2 then some (S x) else w.cell? ⟨g, q, none⟩ := fun q => by
    rw [cell_of_row _ g q _ _ _ e2, cell_of_row w g q _ _ _ hc]
    by_cases a : q = j * 2 + 1
    · subst a; rw [if_pos rfl, Array.getElem?_setIfInBounds, if_pos rfl, if_pos (by simp; omega)]
    · rw [if_neg a]
      by_cases b : q = j * 2
      · subst b; rw [if_pos rfl, Array.getElem?_setIfInBounds_ne (by omega), Array.getElem?_setIfInBounds, if_pos rfl, if_pos (by omega)]
      · rw [if_neg b, Array.getElem?_setIfInBounds_ne (by omega), Array.getElem?_setIfInBounds_ne (by omega)]
  refine ⟨⟨_, e2, by simpa using hs⟩, fun i hi => ?_, fun i hi => ?_⟩
  · rw [hcell]
    by_cases e : i = j
    · subst e; rw [if_neg (by omega), if_pos rfl, he]
    · rw [if_neg (by omega), if_neg (by omega), ho i hi e]; exact h.fst i hi
  · rw [hcell]
    by_cases e : i = j
    · subst e; rw [if_pos rfl, he]
    · rw [if_neg (by omega), if_neg (by omega), ho i hi e]; exact h.snd i hi
/-- The cells of pairs. -/
def pcells (ls : List (List UInt8 × Int)) : List Value := ls.flatMap fun x => [S x.1, .int .i64 x.2]
end Go.Proofs.YtfkdailfcmnjlaaGreatDoor
