/-
  The library's FormatInt, and the program's plain form of a condition. The program's plain form of a condition. The program's plain form of every condition is the plain function's. What the lets tell, one behind the other; what a word's kind says of what it tells. What the program's words tell. What the program tells of a tree of a condition in its memory. What the program tells of every tree of a condition. The parts of a text that was read, as trees: their types, what they tell, and that they lie in the program's memory.
-/
import Derived.Test.YtfkdailfcmnjlaaGreatDoorCompiles01
import Derived.Test.YtfkdailfcmnjlaaGreatDoorCompiles02
import Derived.Test.YtfkdailfcmnjlaaGreatDoorCompiles04
import Derived.Test.YtfkdailfcmnjlaaGreatDoorCompiles05
import Derived.Test.YtfkdailfcmnjlaaGreatDoorCompiles06
import Derived.Test.YtfkdailfcmnjlaaGreatDoorCompiles07
import Derived.Test.YtfkdailfcmnjlaaGreatDoorCompiles08
import Derived.Test.YtfkdailfcmnjlaaGreatDoorCompiles09
import Derived.Test.YtfkdailfcmnjlaaGreatDoorCompiles10
import Derived.Test.YtfkdailfcmnjlaaGreatDoorCompiles11
import Derived.Test.YtfkdailfcmnjlaaGreatDoorCompiles12
import Derived.Test.YtfkdailfcmnjlaaGreatDoorCompiles13
import Derived.Test.YtfkdailfcmnjlaaGreatDoorCompiles14
import Derived.Test.YtfkdailfcmnjlaaGreatDoorCompiles15
import Derived.Test.YtfkdailfcmnjlaaGreatDoorCompiles16
import Derived.Test.YtfkdailfcmnjlaaGreatDoorCompiles17
import Derived.Test.YtfkdailfcmnjlaaGreatDoorCompiles18
import Derived.Test.YtfkdailfcmnjlaaGreatDoorCompiles19
import Derived.Test.YtfkdailfcmnjlaaGreatDoorCompiles20
import Derived.Test.YtfkdailfcmnjlaaGreatDoorCompiles21
import Derived.Test.YtfkdailfcmnjlaaGreatDoorCompiles22
import Derived.Test.YtfkdailfcmnjlaaGreatDoorCompiles23
import Derived.Test.YtfkdailfcmnjlaaGreatDoorCompiles24
import Derived.Test.YtfkdailfcmnjlaaGreatDoorCompiles28
import Derived.Test.YtfkdailfcmnjlaaGreatDoorLays2
import Derived.Test.YtfkdailfcmnjlaaGreatDoorLays
import Derived.Lib.LaidTab
import Derived.Lib.AppendIntMem
import Derived.WalkKit
import Derived.Deep.QuietTactic
import Derived.BigQuiet
import Derived.WalkSpells
import GoSem.Op.String
import Derived.Deep.AppendLies
import Derived.Deep.RegionHeld3
import Derived.Deep.DrawnRows
import Derived.Deep.RegionHeldLaw
import Derived.Deep.RegionLaw
import Derived.Lib.ParseIntBCases
import Derived.Deep.OwnRows
set_option linter.unusedVariables false
set_option linter.unusedSimpArgs false
namespace Go.Proofs.YtfkdailfcmnjlaaGreatDoor
open Go Go.RowKit
set_option maxRecDepth 100000
attribute [local go_sem ↓] Go.wp_at_zero Go.wp_at_succ
variable {bs : Nat}

/-- The library's table of powers. -/
def Tb (w : World) : Prop := Lib.TabIs Tryz.prog w "internal/strconv.uint64pow10" .u64 Lib.pow10Tab
theorem gPow : Tryz.prog.globalNamed "internal/strconv.uint64pow10" = some 2 := by kernel_rfl
theorem Tb.below {w w' : World} (h : Tb w) (hb : Below w.heap.size w w') : Tb w' := by
  unfold Tb Lib.TabIs World.var? at *
  rw [gPow] at *
  simp only [Option.bind_some] at *
  have hlt : 2 < w.heap.size := by
    rcases Nat.lt_or_ge 2 w.heap.size with h1 | h1
    · exact h1
    · rw [Array.getElem?_eq_none h1] at h; simp at h
  rw [hb.block _ hlt]; exact h
end Go.Proofs.YtfkdailfcmnjlaaGreatDoor

namespace Go.Proofs.YtfkdailfcmnjlaaGreatDoor
open Go Go.RowKit
set_option maxRecDepth 100000
attribute [local go_sem ↓] Go.wp_at_zero Go.wp_at_succ
variable {bs : Nat}

/-- What a condition's plain form needs of its words. -/
structure PlainOK (L : List Pt) : Prop where
  tokw : ∀ k, k < L.length → TokW (L.getD k noPt).tok
  short : ∀ k, k < L.length → (L.getD k noPt).tok.text.length ≤ 1000
  num : ∀ k, k < L.length → (L.getD k noPt).tok.k = 110 → decVal (L.getD k noPt).tok.text ≤ 9223372036854775807
  few : L.length ≤ 5000

end Go.Proofs.YtfkdailfcmnjlaaGreatDoor

namespace Go.Proofs.YtfkdailfcmnjlaaGreatDoor
open Go Go.RowKit
set_option maxRecDepth 100000
variable {bs : Nat}

theorem getD_in {l : List Nat} {j : Nat} (h : j < l.length) : l.getD j 0 ∈ l := by rw [List.getD_eq_getElem?_getD, List.getElem?_eq_getElem h]; exact List.getElem_mem h

end Go.Proofs.YtfkdailfcmnjlaaGreatDoor

namespace Go.Proofs.YtfkdailfcmnjlaaGreatDoor
open Go Go.RowKit
set_option maxRecDepth 100000

/-- What the lets among items tell. -/
def letVals : List Itm → List Int → List Int
  | x :: r, t :: ts => if x.name = [] then letVals r ts else t :: letVals r ts
  | _, _ => []
theorem letVals_snoc (xs : List Itm) (x : Itm) (t : Int) : ∀ (vals : List Int), vals.length = xs.length → letVals (xs ++ [x]) (vals ++ [t]) = if x.name = [] then letVals xs vals else letVals xs vals ++ [t] := by
  induction xs with
  | nil => intro vals h; obtain rfl : vals = [] := by simpa using h
           simp [letVals]
  | cons y r ih =>
    intro vals h
    cases vals with
    | nil => simp at h
    | cons u vals =>
      have := ih vals (by simpa using h)
      simp only [List.cons_append, letVals, this]
      split <;> split <;> simp
theorem letVals_len (xs : List Itm) : ∀ (vals : List Int), vals.length = xs.length → (letVals xs vals).length = (giv xs).length := by
  induction xs with
  | nil => intro vals h; simp [letVals, giv]
  | cons y r ih =>
    intro vals h
    cases vals with
    | nil => simp at h
    | cons u vals =>
      have := ih vals (by simpa using h)
      rw [letVals, giv]; split <;> simp [this]
theorem letVals_at (s : List UInt8) (hs : s ≠ []) (xs : List Itm) : ∀ (vals : List Int), vals.length ≤ xs.length → 0 ≤ letIx xs s vals.length → (letVals (xs.take vals.length) vals).getD (idx (giv (xs.take vals.length)) s).toNat 0 = vals.getD (letIx xs s vals.length).toNat 0 := by
  induction xs with
  | nil => intro vals h h0; simp [letIx] at h0
  | cons x r ih =>
    intro vals h h0
    cases vals with
    | nil => simp [letIx] at h0
    | cons u vals =>
      rw [List.length_cons] at *
      rw [letIx] at h0 ⊢
      rw [List.take_succ_cons, letVals, giv]
      by_cases hx : x.name = []
      · have he : ¬ (x.name == s) = true := by rw [hx]; simpa using hs
        rw [if_neg he] at h0 ⊢
        rw [if_pos hx, if_pos hx]
        by_cases h1 : letIx r s vals.length < 0
        · rw [if_pos h1] at h0; omega
        · rw [if_neg h1]
          rw [ih vals (by simpa using h) (by omega), show (letIx r s vals.length + 1).toNat = (letIx r s vals.length).toNat + 1 from by omega, List.getD_cons_succ]
      · rw [if_neg hx, if_neg hx, idx]
        by_cases he : (x.name == s) = true
        · rw [if_pos he, if_pos he]; rfl
        · rw [if_neg he] at h0 ⊢
          rw [if_neg he]
          by_cases h1 : letIx r s vals.length < 0
          · rw [if_pos h1] at h0; omega
          · have h2 : ¬ idx (giv (r.take vals.length)) s < 0 := fun h => h1 ((giv_ix s hs r _).1 h)
            rw [if_neg h1, if_neg h2, show (letIx r s vals.length + 1).toNat = (letIx r s vals.length).toNat + 1 from by omega, show (idx (giv (r.take vals.length)) s + 1).toNat = (idx (giv (r.take vals.length)) s).toNat + 1 from by omega, List.getD_cons_succ, List.getD_cons_succ]
            exact ih vals (by simpa using h) (by omega)

/-- What a word of a kind tells. -/
theorem word_kinds : ∀ x ∈ spell.drop 20, (27 ≤ kn x → idx kFields x = ((kn x - 27 : Nat) : Int)) ∧ (kn x < 27 → idx kFields x < 0) ∧ (22 ≤ kn x → kn x ≤ 26 → idx kMembers x = ((kn x - 22 : Nat) : Int)) ∧ (kn x < 22 → idx kMembers x < 0) ∧ ((x == wTrue) = decide (kn x = 20)) ∧ 20 ≤ kn x ∧ kn x ≤ 35 := by decide
/-- What a kind tells. -/
def kindI (fl : List Int) (k : Nat) : Int := if 27 ≤ k then fl.getD (k - 27) 0 else if 22 ≤ k then ((k - 22 : Nat) : Int) else truthI (decide (k = 20))
theorem alone_kind {t : Tok} (h : TokW t) (ha : alone t = true) (hn : t.k ≠ 110) (ho : t.k ≠ 111) : t.text ∈ spell.drop 20 ∧ kindOf t = kn t.text ∧ 20 ≤ kindOf t ∧ kindOf t ≤ 35 := by
  rw [alone_iff h] at ha
  have hk : 20 ≤ kindOf t ∧ kindOf t ≤ 35 := by
    unfold standsK at ha
    simp only [Bool.or_eq_true, Bool.and_eq_true, decide_eq_true_eq] at ha
    rcases ha with (h1 | h1) | h1
    · exfalso
      rcases h.cases with h2 | h2 | h2 | ⟨h2, hm⟩
      · exact hn h2
      · exact ho h2
      · unfold kindOf at h1; rw [if_neg hn, if_neg ho, if_pos h2] at h1; simp at h1
      · rw [kind_word h2] at h1; have := spell_big _ hm; unfold kn at h1; omega
    · exact absurd (kind_two.1 h1) ho
    · exact h1
  rcases h.cases with h2 | h2 | h2 | ⟨h2, hm⟩
  · exact absurd h2 hn
  · exact absurd h2 ho
  · exfalso; unfold kindOf at hk; rw [if_neg hn, if_neg ho, if_pos h2] at hk; omega
  · have hw := kind_word h2
    refine ⟨?_, hw, hk⟩
    have key : ∀ x ∈ spell.drop 3, 20 ≤ kn x → x ∈ spell.drop 20 := by decide
    exact key _ hm (by omega)
theorem word_kind {xs : List Itm} {vals fl : List Int} {t : Tok} (h : TokW t) (ha : alone t = true) (hn : t.k ≠ 110) (ho : t.k ≠ 111) : wordI xs vals fl t = kindI fl (kindOf t) := by
  obtain ⟨hm, hk, _⟩ := alone_kind h ha hn ho
  obtain ⟨a1, a2, a3, a4, a5, a6, a7⟩ := word_kinds _ hm
  unfold wordI kindI
  rw [if_neg hn, if_neg ho, hk]
  by_cases h1 : 27 ≤ kn t.text
  · have e := a1 h1
    rw [if_pos (by omega), if_pos h1, e, Int.toNat_natCast]
  · have e := a2 (by omega)
    rw [if_neg (by omega), if_neg h1]
    by_cases h2 : 22 ≤ kn t.text
    · have e := a3 h2 (by omega)
      rw [if_pos (by omega), if_pos h2, e]
    · have e := a4 (by omega)
      rw [if_neg (by omega), if_neg h2, a5]
end Go.Proofs.YtfkdailfcmnjlaaGreatDoor

namespace Go.Proofs.YtfkdailfcmnjlaaGreatDoor
open Go Go.RowKit
set_option maxRecDepth 100000
attribute [local go_sem ↓] Go.wp_at_zero Go.wp_at_succ
variable {bs : Nat}

/-- The teller's cells: the fields, and what the lets told. -/
structure TelAt (w : World) (tb : Nat) (fl : List Int) (v : Value) : Prop where
  fields : ∀ i, i < 9 → w.cell? ⟨tb, i, none⟩ = some (.int .i64 (fl.getD i 0))
  lets : w.cell? ⟨tb, 9, none⟩ = some v
theorem TelAt.lt {w : World} {tb : Nat} {fl : List Int} {v : Value} (h : TelAt w tb fl v) : tb < w.heap.size := World.block_lt_of_cell? w _ h.lets
theorem TelAt.below {w w' : World} {tb : Nat} {fl : List Int} {v : Value} (h : TelAt w tb fl v) (hb : Below w.heap.size w w') : TelAt w' tb fl v :=
  ⟨fun i hi => by rw [hb.cell (p := ⟨tb, i, none⟩) h.lt]; exact h.fields i hi, by rw [hb.cell (p := ⟨tb, 9, none⟩) h.lt]; exact h.lets⟩
/-- A list of numbers at a slice. -/
def IntAt (w : World) (a : Option Addr) (l : List Int) : Prop := ∀ j, j < l.length → ∃ g, a = some ⟨g, 0, none⟩ ∧ w.cell? ⟨g, j, none⟩ = some (.int .i64 (l.getD j 0))
theorem IntAt.below {w w' : World} {a : Option Addr} {l : List Int} (h : IntAt w a l) (hb : Below w.heap.size w w') : IntAt w' a l := fun j hj => by
  obtain ⟨g, e, c⟩ := h j hj
  exact ⟨g, e, by rw [hb.cell (p := ⟨g, j, none⟩) (World.block_lt_of_cell? w _ c)]; exact c⟩

set_option maxHeartbeats 4000000 in
theorem pfield_any (k : Nat) (w : World) (hk : k ≤ 100) : Calls Tryz.prog 171 #[.int .i64 k] w fun e w' => e = .returned (.tuple #[.int .i64 (if 27 ≤ k ∧ k ≤ 35 then k - 27 else 0 : Nat), .bool (decide (27 ≤ k ∧ k ≤ 35))]) ∧ w' = w := by
  have WI : ∀ W, Calls Tryz.prog 226 #[.int .i64 k, .int .i64 27, .int .i64 35] W fun e w' => e = .returned (.tuple #[.int .i64 (if 27 ≤ k ∧ k ≤ 35 then k - 27 else 0 : Nat), .bool (decide (27 ≤ k ∧ k ≤ 35))]) ∧ w' = W := fun W => by
    by_cases h : 27 ≤ k ∧ k ≤ 35
    · have h1 := h.1
      have h2 := h.2
      have HE : Hid ((if 27 ≤ k ∧ k ≤ 35 then k - 27 else 0 : Nat) = k - 27 ∧ decide (27 ≤ k ∧ k ≤ 35) = true) := ⟨by rw [if_pos h], decide_eq_true h⟩
      generalize (if 27 ≤ k ∧ k ≤ 35 then k - 27 else 0 : Nat) = r at *
      generalize decide (27 ≤ k ∧ k ≤ 35) = q at *
      clear h
      go_enter Tryz.func226, Tryz.ntmps226
      go_wp2
      refine bodyPost_ret (v := .tuple #[.int .i64 ((k : Int) - 27), .bool true]) (by simp [results, Tryz.results226, go_sem]) rfl ⟨?_, rfl⟩
      rw [HE.out.1, HE.out.2, show ((k - 27 : Nat) : Int) = (k : Int) - 27 by omega]
    · have HE : Hid ((if 27 ≤ k ∧ k ≤ 35 then k - 27 else 0 : Nat) = 0 ∧ decide (27 ≤ k ∧ k ≤ 35) = false) := ⟨by rw [if_neg h], decide_eq_false h⟩
      generalize (if 27 ≤ k ∧ k ≤ 35 then k - 27 else 0 : Nat) = r at *
      generalize decide (27 ≤ k ∧ k ≤ 35) = q at *
      by_cases h1 : k < 27
      · clear h
        go_enter Tryz.func226, Tryz.ntmps226
        go_wp2
        refine bodyPost_ret (v := .tuple #[.int .i64 0, .bool false]) (by simp [results, Tryz.results226, go_sem]) rfl ⟨?_, rfl⟩
        rw [HE.out.1, HE.out.2]; rfl
      · have h2 : 35 < k := by omega
        clear h
        go_enter Tryz.func226, Tryz.ntmps226
        go_wp2
        refine bodyPost_ret (v := .tuple #[.int .i64 0, .bool false]) (by simp [results, Tryz.results226, go_sem]) rfl ⟨?_, rfl⟩
        rw [HE.out.1, HE.out.2]; rfl
  generalize (if 27 ≤ k ∧ k ≤ 35 then k - 27 else 0 : Nat) = r at *
  generalize decide (27 ≤ k ∧ k ≤ 35) = q at *
  go_enter Tryz.func171, Tryz.ntmps171
  go_wp2_with fail
  refine (WI _).mono ?_
  rintro e w1 ⟨rfl, rfl⟩
  clear WI
  go_wp2_with fail
  refine bodyPost_ret (v := .tuple #[.int .i64 r, .bool q]) (by simp [results, Tryz.results171, go_sem]) rfl ⟨rfl, rfl⟩

set_option maxHeartbeats 4000000 in
theorem pmemb_any (k : Nat) (w : World) (hk : k ≤ 100) : Calls Tryz.prog 172 #[.int .i64 k] w fun e w' => e = .returned (.tuple #[.int .i64 (if 22 ≤ k ∧ k ≤ 26 then k - 22 else 0 : Nat), .bool (decide (22 ≤ k ∧ k ≤ 26))]) ∧ w' = w := by
  have WI : ∀ W, Calls Tryz.prog 226 #[.int .i64 k, .int .i64 22, .int .i64 26] W fun e w' => e = .returned (.tuple #[.int .i64 (if 22 ≤ k ∧ k ≤ 26 then k - 22 else 0 : Nat), .bool (decide (22 ≤ k ∧ k ≤ 26))]) ∧ w' = W := fun W => by
    by_cases h : 22 ≤ k ∧ k ≤ 26
    · have h1 := h.1
      have h2 := h.2
      have HE : Hid ((if 22 ≤ k ∧ k ≤ 26 then k - 22 else 0 : Nat) = k - 22 ∧ decide (22 ≤ k ∧ k ≤ 26) = true) := ⟨by rw [if_pos h], decide_eq_true h⟩
      generalize (if 22 ≤ k ∧ k ≤ 26 then k - 22 else 0 : Nat) = r at *
      generalize decide (22 ≤ k ∧ k ≤ 26) = q at *
      clear h
      go_enter Tryz.func226, Tryz.ntmps226
      go_wp2
      refine bodyPost_ret (v := .tuple #[.int .i64 ((k : Int) - 22), .bool true]) (by simp [results, Tryz.results226, go_sem]) rfl ⟨?_, rfl⟩
      rw [HE.out.1, HE.out.2, show ((k - 22 : Nat) : Int) = (k : Int) - 22 by omega]
    · have HE : Hid ((if 22 ≤ k ∧ k ≤ 26 then k - 22 else 0 : Nat) = 0 ∧ decide (22 ≤ k ∧ k ≤ 26) = false) := ⟨by rw [if_neg h], decide_eq_false h⟩
      generalize (if 22 ≤ k ∧ k ≤ 26 then k - 22 else 0 : Nat) = r at *
      generalize decide (22 ≤ k ∧ k ≤ 26) = q at *
      by_cases h1 : k < 22
      · clear h
        go_enter Tryz.func226, Tryz.ntmps226
        go_wp2
        refine bodyPost_ret (v := .tuple #[.int .i64 0, .bool false]) (by simp [results, Tryz.results226, go_sem]) rfl ⟨?_, rfl⟩
        rw [HE.out.1, HE.out.2]; rfl
      · have h2 : 26 < k := by omega
        clear h
        go_enter Tryz.func226, Tryz.ntmps226
        go_wp2
        refine bodyPost_ret (v := .tuple #[.int .i64 0, .bool false]) (by simp [results, Tryz.results226, go_sem]) rfl ⟨?_, rfl⟩
        rw [HE.out.1, HE.out.2]; rfl
  generalize (if 22 ≤ k ∧ k ≤ 26 then k - 22 else 0 : Nat) = r at *
  generalize decide (22 ≤ k ∧ k ≤ 26) = q at *
  go_enter Tryz.func172, Tryz.ntmps172
  go_wp2_with fail
  refine (WI _).mono ?_
  rintro e w1 ⟨rfl, rfl⟩
  clear WI
  go_wp2_with fail
  refine bodyPost_ret (v := .tuple #[.int .i64 r, .bool q]) (by simp [results, Tryz.results172, go_sem]) rfl ⟨rfl, rfl⟩
end Go.Proofs.YtfkdailfcmnjlaaGreatDoor

namespace Go.Proofs.YtfkdailfcmnjlaaGreatDoor
open Go Go.RowKit
set_option maxRecDepth 100000
attribute [local go_sem ↓] Go.wp_at_zero Go.wp_at_succ

/-- A part's cells. -/
structure CellsC (w : World) (b : Nat) (k : Nat) (pl : Int) (n : Int) (nm : List UInt8) (u : Value) (l : Int) : Prop where
  c0 : w.cell? ⟨b, 0, none⟩ = some (.int .i64 k)
  c1 : w.cell? ⟨b, 1, none⟩ = some (.int .i64 pl)
  c2 : w.cell? ⟨b, 2, none⟩ = some (.int .i64 n)
  c3 : w.cell? ⟨b, 3, none⟩ = some (S nm)
  c4 : w.cell? ⟨b, 4, none⟩ = some u
  c5 : w.cell? ⟨b, 5, none⟩ = some (.int .i64 l)
theorem CellsC.below {w w' : World} {b k : Nat} {pl n l : Int} {nm : List UInt8} {u : Value} (h : CellsC w b k pl n nm u l) (hb : Below w.heap.size w w') : CellsC w' b k pl n nm u l := by
  have hl : b < w.heap.size := World.block_lt_of_cell? w _ h.c0
  have e : ∀ j, w'.cell? ⟨b, j, none⟩ = w.cell? ⟨b, j, none⟩ := fun j => hb.cell (p := ⟨b, j, none⟩) hl
  exact ⟨(e 0).trans h.c0, (e 1).trans h.c1, (e 2).trans h.c2, (e 3).trans h.c3, (e 4).trans h.c4, (e 5).trans h.c5⟩
/-- The list of the parts under a part. -/
def UnderG (w : World) (u : Value) (n : Nat) (bl : Nat → Nat) : Prop := ∃ a cap, u = .slice a n cap ∧ ∀ j, j < n → ∃ g, a = some ⟨g, 0, none⟩ ∧ w.cell? ⟨g, j, none⟩ = some (.pointer (some ⟨bl j, 0, none⟩))
theorem UnderG.below {w w' : World} {u : Value} {n : Nat} {bl : Nat → Nat} (h : UnderG w u n bl) (hb : Below w.heap.size w w') : UnderG w' u n bl := by
  obtain ⟨a, cap, e, h⟩ := h
  refine ⟨a, cap, e, fun j hj => ?_⟩
  obtain ⟨g, e, c⟩ := h j hj
  exact ⟨g, e, by rw [hb.cell (p := ⟨g, j, none⟩) (World.block_lt_of_cell? w _ c)]; exact c⟩
/-- A tree lies at a block. -/
def TrAt : Nat → World → Nat → Tr → Prop
  | 0, _, _, _ => False
  | d + 1, w, b, t => ∃ (pl : Int) (nm : List UInt8) (u : Value) (bl : Nat → Nat), CellsC w b t.k pl t.n nm u t.l ∧ UnderG w u t.kids.length bl ∧ ∀ j, j < t.kids.length → TrAt d w (bl j) (t.kid j)
theorem TrAt.below {d : Nat} : ∀ {w w' : World} {b : Nat} {t : Tr}, TrAt d w b t → Below w.heap.size w w' → TrAt d w' b t := by
  induction d with
  | zero => intro w w' b t h; exact h.elim
  | succ d ih =>
    intro w w' b t h hb
    obtain ⟨pl, nm, u, bl, h1, h2, h3⟩ := h
    exact ⟨pl, nm, u, bl, h1.below hb, h2.below hb, fun j hj => ih (h3 j hj) hb⟩
theorem TrAt.up {d : Nat} : ∀ {w : World} {b : Nat} {t : Tr}, TrAt d w b t → ∀ {e : Nat}, d ≤ e → TrAt e w b t := by
  induction d with
  | zero => intro w b t h; exact h.elim
  | succ d ih =>
    intro w b t h e he
    obtain ⟨e, rfl⟩ : ∃ q, e = q + 1 := ⟨e - 1, by omega⟩
    obtain ⟨pl, nm, u, bl, h1, h2, h3⟩ := h
    exact ⟨pl, nm, u, bl, h1, h2, fun j hj => ih (h3 j hj) (by omega)⟩

set_option maxHeartbeats 4000000 in
theorem ptellWord_any {w : World} {tb b k cap : Nat} {pl n l : Int} {nm : List UInt8} {u : Value} {a : Option Addr} {lv fl : List Int} (hk : leafK k) (hc : CellsC w b k pl n nm u l) (hT : TelAt w tb fl (.slice a lv.length cap)) (hL : IntAt w a lv) (hlv : lv.length ≤ 2000) (h2 : k = 2 → 0 ≤ l ∧ l.toNat < lv.length) :
    Calls Tryz.prog 127 #[.pointer (some ⟨tb, 0, none⟩), .pointer (some ⟨b, 0, none⟩)] w fun e w' => e = .returned (.int .i64 (if k = 1 then n else if k = 2 then lv.getD l.toNat 0 else kindV fl k)) ∧ Below w.heap.size w w' := by
  have hB := Below.refl w.heap.size w
  obtain ⟨c0, c1, c2, c3, c4, c5⟩ := hc
  obtain ⟨tf, tl⟩ := hT
  by_cases k1 : k = 1
  · subst k1
    rw [if_pos rfl]
    clear tf h2 hL
    go_enter Tryz.func127, Tryz.ntmps127
    go_wp2_with fail
    go_ret
    exact ⟨rfl, hB⟩
  rw [if_neg k1]
  by_cases k2 : k = 2
  · subst k2
    rw [if_pos rfl]
    obtain ⟨h0, h3⟩ := h2 rfl
    obtain ⟨g, rfl, hg⟩ := hL l.toNat h3
    have e : l = (l.toNat : Int) := by omega
    have h4 : l < (lv.length : Int) := by omega
    generalize lv.getD l.toNat 0 = r at *
    generalize l.toNat = q at *
    subst e
    clear tf h2 hL
    go_enter Tryz.func127, Tryz.ntmps127
    go_wp2_with fail
    go_region_held (fun w' => w'.cell? ⟨tb, 9, none⟩ = some (.slice (some ⟨g, 0, none⟩) lv.length cap) ∧ w'.cell? ⟨b, 5, none⟩ = some (.int .i64 q) ∧ w'.cell? ⟨g, q, none⟩ = some (.int .i64 r)) (go_keep) (fail)
    go_wp2_with fail
    go_ret
    exact ⟨rfl, hB.drew⟩
  rw [if_neg k2]
  have hk9 : 20 ≤ k ∧ k ≤ 35 := by unfold leafK at hk; omega
  have WF := pfield_any k w (by omega)
  have WM := pmemb_any k w (by omega)
  have hka : ((k : Int) == (1 : Int)) = false := by
    have : ¬ ((k : Int) = 1) := by omega
    simpa using this
  have hkb : ((k : Int) == (2 : Int)) = false := by
    have : ¬ ((k : Int) = 2) := by omega
    simpa using this
  by_cases h27 : 27 ≤ k
  · have hf := tf (k - 27) (by omega)
    have HV : Hid (kindV fl k = fl.getD (k - 27) 0) := by show _ = _; unfold kindV; rw [if_pos h27]
    rw [if_pos (by omega), decide_eq_true (by omega)] at WF
    have h28 : k - 27 < 9 := by omega
    generalize fl.getD (k - 27) 0 = r at *
    generalize kindV fl k = q at *
    generalize k - 27 = m at *
    clear WM tf hL h2 hk
    go_enter Tryz.func127, Tryz.ntmps127
    go_wp2_with fail
    refine WF.mono ?_
    rintro e w1 ⟨rfl, rfl⟩
    clear WF
    go_wp2_with fail
    go_ret
    exact ⟨by rw [HV.out]; rfl, hB⟩
  · rw [if_neg (by omega), decide_eq_false (by omega)] at WF
    by_cases h22 : 22 ≤ k
    · have HV : Hid (kindV fl k = ((k - 22 : Nat) : Int)) := by show _ = _; unfold kindV; rw [if_neg h27, if_pos h22]
      rw [if_pos (by omega), decide_eq_true (by omega)] at WM
      generalize kindV fl k = q at *
      generalize k - 22 = m at *
      clear tf hL h2 hk
      go_enter Tryz.func127, Tryz.ntmps127
      go_wp2_with fail
      refine WF.mono ?_
      rintro e w1 ⟨rfl, rfl⟩
      clear WF
      go_wp2_with fail
      refine WM.mono ?_
      rintro e w2 ⟨rfl, rfl⟩
      clear WM
      go_wp2_with fail
      go_ret
      exact ⟨by rw [HV.out]; rfl, hB⟩
    · rw [if_neg (by omega), decide_eq_false (by omega)] at WM
      have HV : Hid (kindV fl k = truthI (decide (k = 20))) := by show _ = _; unfold kindV; rw [if_neg h27, if_neg h22]
      generalize kindV fl k = q at *
      by_cases h20 : k = 20
      · subst h20
        have WT := fun W => ptruth_any true W
        have HV2 : Hid (q = truthI true) := by show _ = _; rw [HV.out]; rfl
        clear HV
        generalize truthI true = r at *
        clear tf hL h2 hk
        go_enter Tryz.func127, Tryz.ntmps127
        go_wp2_with fail
        refine WF.mono ?_
        rintro e w1 ⟨rfl, rfl⟩
        clear WF
        go_wp2_with fail
        refine WM.mono ?_
        rintro e w2 ⟨rfl, rfl⟩
        clear WM
        go_wp2_with fail
        refine (WT _).mono ?_
        rintro e w3 ⟨rfl, rfl⟩
        clear WT
        go_wp2_with fail
        go_ret
        exact ⟨by rw [HV2.out]; rfl, hB⟩
      · have h21 : ((k : Int) == (20 : Int)) = false := by
          have : ¬ ((k : Int) = 20) := by omega
          simpa using this
        have WT := fun W => ptruth_any false W
        have HV2 : Hid (q = truthI false) := by show _ = _; rw [HV.out, decide_eq_false h20]
        clear HV
        generalize truthI false = r at *
        clear tf hL h2 hk
        go_enter Tryz.func127, Tryz.ntmps127
        go_wp2_with fail
        refine WF.mono ?_
        rintro e w1 ⟨rfl, rfl⟩
        clear WF
        go_wp2_with fail
        refine WM.mono ?_
        rintro e w2 ⟨rfl, rfl⟩
        clear WM
        go_wp2_with fail
        refine (WT _).mono ?_
        rintro e w3 ⟨rfl, rfl⟩
        clear WT
        go_wp2_with fail
        go_ret
        exact ⟨by rw [HV2.out]; rfl, hB⟩
end Go.Proofs.YtfkdailfcmnjlaaGreatDoor

namespace Go.Proofs.YtfkdailfcmnjlaaGreatDoor
open Go Go.RowKit
set_option maxRecDepth 100000
attribute [local go_sem ↓] Go.wp_at_zero Go.wp_at_succ

theorem tellOver_kind {k : Nat} (hk : twoK k) {a b : Int} (ha : In64 a) (hb : In64 b) (w : World) : Calls Tryz.prog 126 #[.int .i64 k, .int .i64 a, .int .i64 b] w fun e w' => e = .returned (.int .i64 (two2 k a b)) ∧ w' = w := by
  rcases hk with rfl | rfl | rfl | rfl | rfl | rfl | rfl
  · have h := tellOver_any (x := [43]) (by decide) ha hb w
    rw [show kn [43] = 6 from by decide] at h; exact h
  · have h := tellOver_any (x := [45]) (by decide) ha hb w
    rw [show kn [45] = 7 from by decide] at h; exact h
  · have h := tellOver_any (x := [61]) (by decide) ha hb w
    rw [show kn [61] = 8 from by decide] at h; exact h
  · have h := tellOver_any (x := [60, 61]) (by decide) ha hb w
    rw [show kn [60, 61] = 9 from by decide] at h; exact h
  · have h := tellOver_any (x := [60]) (by decide) ha hb w
    rw [show kn [60] = 10 from by decide] at h; exact h
  · have h := tellOver_any (x := [111, 114]) (by decide) ha hb w
    rw [show kn [111, 114] = 17 from by decide] at h; exact h
  · have h := tellOver_any (x := [97, 110, 100]) (by decide) ha hb w
    rw [show kn [97, 110, 100] = 18 from by decide] at h; exact h

set_option maxHeartbeats 4000000 in
theorem ptell_two {w : World} {tb b k g cap b0 b1 : Nat} {v0 v1 : Int} (hk : twoK k) (c0 : w.cell? ⟨b, 0, none⟩ = some (.int .i64 k)) (c4 : w.cell? ⟨b, 4, none⟩ = some (.slice (some ⟨g, 0, none⟩) 2 cap)) (d0 : w.cell? ⟨g, 0, none⟩ = some (.pointer (some ⟨b0, 0, none⟩))) (d1 : w.cell? ⟨g, 1, none⟩ = some (.pointer (some ⟨b1, 0, none⟩))) (h0 : In64 v0) (h1 : In64 v1)
    (W1 : ∀ w1, Below w.heap.size w w1 → Calls Tryz.prog 78 #[.pointer (some ⟨tb, 0, none⟩), .pointer (some ⟨b0, 0, none⟩)] w1 fun e w' => e = .returned (.int .i64 v0) ∧ Below w1.heap.size w1 w')
    (W2 : ∀ w1, Below w.heap.size w w1 → Calls Tryz.prog 78 #[.pointer (some ⟨tb, 0, none⟩), .pointer (some ⟨b1, 0, none⟩)] w1 fun e w' => e = .returned (.int .i64 v1) ∧ Below w1.heap.size w1 w') :
    Calls Tryz.prog 78 #[.pointer (some ⟨tb, 0, none⟩), .pointer (some ⟨b, 0, none⟩)] w fun e w' => e = .returned (.int .i64 (two2 k v0 v1)) ∧ Below w.heap.size w w' := by
  have W3 := fun W => tellOver_kind hk h0 h1 W
  have n3 : ((k : Int) == (19 : Int)) = false := by
    have : ¬ ((k : Int) = 19) := by unfold twoK at hk; omega
    simpa using this
  have n4 : ((k : Int) == (14 : Int)) = false := by
    have : ¬ ((k : Int) = 14) := by unfold twoK at hk; omega
    simpa using this
  clear hk
  have KF : Hid (∀ w', Below w.heap.size w w' → (w'.cell? ⟨b, 4, none⟩ = some (.slice (some ⟨g, 0, none⟩) 2 cap) ∧ w'.cell? ⟨g, 0, none⟩ = some (.pointer (some ⟨b0, 0, none⟩)) ∧ w'.cell? ⟨g, 1, none⟩ = some (.pointer (some ⟨b1, 0, none⟩)) ∧ w'.cell? ⟨b, 0, none⟩ = some (.int .i64 k))) := fun w' h => by
    rw [h.cell (p := ⟨b, 4, none⟩) (World.block_lt_of_cell? w _ c4), h.cell (p := ⟨g, 0, none⟩) (World.block_lt_of_cell? w _ d0), h.cell (p := ⟨g, 1, none⟩) (World.block_lt_of_cell? w _ d1), h.cell (p := ⟨b, 0, none⟩) (World.block_lt_of_cell? w _ c0)]
    exact ⟨c4, d0, d1, c0⟩
  generalize two2 k v0 v1 = q at *
  go_enter Tryz.func78, Tryz.ntmps78
  go_wp2_with fail
  go_region_held3 (fun w' => w'.cell? ⟨b, 4, none⟩ = some (.slice (some ⟨g, 0, none⟩) 2 cap) ∧ w'.cell? ⟨g, 0, none⟩ = some (.pointer (some ⟨b0, 0, none⟩)) ∧ w'.cell? ⟨g, 1, none⟩ = some (.pointer (some ⟨b1, 0, none⟩)) ∧ w'.cell? ⟨b, 0, none⟩ = some (.int .i64 k)) (first | exact KF.out _ hB7 | exact KF.out _ hB5 | go_keep) ((first | (go_at_call 126; refine (W3 _).mono ?_; rintro e w6 ⟨rfl, hw6⟩; subst hw6) | (go_at_call 78; refine (W2 _ hB5).mono ?_; rintro e w7 ⟨rfl, hb7⟩; have hB7 := hB5.trans (hb7.mono hB5.size)) | (go_at_call 78; refine (W1 _ (Below.refl _ _).drew).mono ?_; rintro e w5 ⟨rfl, hb5⟩; have hB5 : Below w.heap.size w w5 := (Below.refl _ _).drew.trans hb5)))
  all_goals rename_i hHeld
  all_goals clear hHeld
  all_goals go_wp2_with fail
  all_goals go_ret
  all_goals exact ⟨rfl, hB7⟩

set_option maxHeartbeats 4000000 in
theorem ptell_not {w : World} {tb b g cap b0 : Nat} {v0 : Int} (c0 : w.cell? ⟨b, 0, none⟩ = some (.int .i64 19)) (c4 : w.cell? ⟨b, 4, none⟩ = some (.slice (some ⟨g, 0, none⟩) 1 cap)) (d0 : w.cell? ⟨g, 0, none⟩ = some (.pointer (some ⟨b0, 0, none⟩))) (h0 : v0 = 0 ∨ v0 = 1)
    (W1 : ∀ w1, Below w.heap.size w w1 → Calls Tryz.prog 78 #[.pointer (some ⟨tb, 0, none⟩), .pointer (some ⟨b0, 0, none⟩)] w1 fun e w' => e = .returned (.int .i64 v0) ∧ Below w1.heap.size w1 w') :
    Calls Tryz.prog 78 #[.pointer (some ⟨tb, 0, none⟩), .pointer (some ⟨b, 0, none⟩)] w fun e w' => e = .returned (.int .i64 (1 - v0)) ∧ Below w.heap.size w w' := by
  have W3 := fun W => pnot_any h0 W
  generalize 1 - v0 = q at *
  clear h0
  go_enter Tryz.func78, Tryz.ntmps78
  go_wp2_with fail
  refine (W1 _ (Below.refl _ _)).mono ?_
  rintro e w1 ⟨rfl, hb1⟩
  clear W1
  go_wp2_with fail
  refine (W3 _).mono ?_
  rintro e w2 ⟨rfl, rfl⟩
  clear W3
  go_wp2_with fail
  go_ret
  exact ⟨rfl, hb1⟩

set_option maxHeartbeats 4000000 in
theorem ptell_if {w : World} {tb b g cap b0 b1 b2 : Nat} {v0 v1 v2 : Int} (c0 : w.cell? ⟨b, 0, none⟩ = some (.int .i64 14)) (c4 : w.cell? ⟨b, 4, none⟩ = some (.slice (some ⟨g, 0, none⟩) 3 cap)) (d0 : w.cell? ⟨g, 0, none⟩ = some (.pointer (some ⟨b0, 0, none⟩))) (d1 : w.cell? ⟨g, 1, none⟩ = some (.pointer (some ⟨b1, 0, none⟩))) (d2 : w.cell? ⟨g, 2, none⟩ = some (.pointer (some ⟨b2, 0, none⟩)))
    (W1 : ∀ w1, Below w.heap.size w w1 → Calls Tryz.prog 78 #[.pointer (some ⟨tb, 0, none⟩), .pointer (some ⟨b0, 0, none⟩)] w1 fun e w' => e = .returned (.int .i64 v0) ∧ Below w1.heap.size w1 w')
    (W2 : ∀ w1, Below w.heap.size w w1 → Calls Tryz.prog 78 #[.pointer (some ⟨tb, 0, none⟩), .pointer (some ⟨b1, 0, none⟩)] w1 fun e w' => e = .returned (.int .i64 v1) ∧ Below w1.heap.size w1 w')
    (W3 : ∀ w1, Below w.heap.size w w1 → Calls Tryz.prog 78 #[.pointer (some ⟨tb, 0, none⟩), .pointer (some ⟨b2, 0, none⟩)] w1 fun e w' => e = .returned (.int .i64 v2) ∧ Below w1.heap.size w1 w') :
    Calls Tryz.prog 78 #[.pointer (some ⟨tb, 0, none⟩), .pointer (some ⟨b, 0, none⟩)] w fun e w' => e = .returned (.int .i64 (if v0 = 1 then v1 else v2)) ∧ Below w.heap.size w w' := by
  have KF : Hid (∀ w', Below w.heap.size w w' → (w'.cell? ⟨b, 4, none⟩ = some (.slice (some ⟨g, 0, none⟩) 3 cap) ∧ w'.cell? ⟨g, 0, none⟩ = some (.pointer (some ⟨b0, 0, none⟩)) ∧ w'.cell? ⟨g, 1, none⟩ = some (.pointer (some ⟨b1, 0, none⟩)) ∧ w'.cell? ⟨g, 2, none⟩ = some (.pointer (some ⟨b2, 0, none⟩)))) := fun w' h => by
    rw [h.cell (p := ⟨b, 4, none⟩) (World.block_lt_of_cell? w _ c4), h.cell (p := ⟨g, 0, none⟩) (World.block_lt_of_cell? w _ d0), h.cell (p := ⟨g, 1, none⟩) (World.block_lt_of_cell? w _ d1), h.cell (p := ⟨g, 2, none⟩) (World.block_lt_of_cell? w _ d2)]
    exact ⟨c4, d0, d1, d2⟩
  by_cases hv : v0 = 1
  · subst hv
    rw [if_pos rfl]
    go_enter Tryz.func78, Tryz.ntmps78
    go_wp2_with fail
    refine (W1 _ (Below.refl _ _)).mono ?_
    rintro e w1 ⟨rfl, hb1⟩
    clear W1 W3 c4 d0 d1 d2
    obtain ⟨c4, d0, d1, d2⟩ := KF.out w1 hb1
    go_wp2_with fail
    refine (W2 _ hb1).mono ?_
    rintro e w2 ⟨rfl, hb2⟩
    clear W2
    have HB : Hid _ := hb1.trans (hb2.mono hb1.size)
    clear c4 d0 d1 d2 hb1 hb2
    go_wp2_with fail
    go_ret
    exact ⟨rfl, HB.out⟩
  · rw [if_neg hv]
    have hv2 : (v0 == (1 : Int)) = false := by simpa using hv
    clear hv
    go_enter Tryz.func78, Tryz.ntmps78
    go_wp2_with fail
    refine (W1 _ (Below.refl _ _)).mono ?_
    rintro e w1 ⟨rfl, hb1⟩
    clear W1 W2 c4 d0 d1 d2
    obtain ⟨c4, d0, d1, d2⟩ := KF.out w1 hb1
    go_wp2_with fail
    refine (W3 _ hb1).mono ?_
    rintro e w2 ⟨rfl, hb2⟩
    clear W3
    have HB : Hid _ := hb1.trans (hb2.mono hb1.size)
    clear c4 d0 d1 d2 hb1 hb2
    go_wp2_with fail
    go_ret
    exact ⟨rfl, HB.out⟩

set_option maxHeartbeats 4000000 in
theorem ptell_leaf {w : World} {tb b k cap : Nat} {pl n l : Int} {nm : List UInt8} {a : Option Addr} {lv fl : List Int} {au : Option Addr} {cu : Nat} (hk : leafK k) (hc : CellsC w b k pl n nm (.slice au 0 cu) l) (hT : TelAt w tb fl (.slice a lv.length cap)) (hL : IntAt w a lv) (hlv : lv.length ≤ 2000) (h2 : k = 2 → 0 ≤ l ∧ l.toNat < lv.length) :
    Calls Tryz.prog 78 #[.pointer (some ⟨tb, 0, none⟩), .pointer (some ⟨b, 0, none⟩)] w fun e w' => e = .returned (.int .i64 (if k = 1 then n else if k = 2 then lv.getD l.toNat 0 else kindV fl k)) ∧ Below w.heap.size w w' := by
  have W1 := ptellWord_any hk hc hT hL hlv h2
  have n3 : ((k : Int) == (19 : Int)) = false := by
    have : ¬ ((k : Int) = 19) := by unfold leafK at hk; omega
    simpa using this
  have n4 : ((k : Int) == (14 : Int)) = false := by
    have : ¬ ((k : Int) = 14) := by unfold leafK at hk; omega
    simpa using this
  obtain ⟨c0, c1, c2, c3, c4, c5⟩ := hc
  clear h2 hL hT hk
  generalize (if k = 1 then n else if k = 2 then lv.getD l.toNat 0 else kindV fl k) = q at *
  go_enter Tryz.func78, Tryz.ntmps78
  go_wp2_with fail
  refine W1.mono ?_
  rintro e w1 ⟨rfl, hb1⟩
  clear W1
  have HB : Hid _ := hb1
  clear c0 c1 c2 c3 c4 c5 hb1
  go_wp2_with fail
  go_ret
  exact ⟨rfl, HB.out⟩

/-- What the program tells of a tree. -/
theorem ptell_any {lt : List Nat} {lv fl : List Int} (hV : LetsT lt lv) (hF : FieldsT fl) (hll : lt.length ≤ lv.length) (hlv : lv.length ≤ 2000) {d : Nat} : ∀ {t : Tr} {w : World} {tb b cap : Nat} {a : Option Addr}, TrAt d w b t → WfT d t → tyTr lt d t ≠ 0 → TelAt w tb fl (.slice a lv.length cap) → IntAt w a lv →
    Calls Tryz.prog 78 #[.pointer (some ⟨tb, 0, none⟩), .pointer (some ⟨b, 0, none⟩)] w fun e w' => e = .returned (.int .i64 (evT lv fl d t)) ∧ Below w.heap.size w w' := by
  induction d with
  | zero => intro t w tb b cap a h; exact h.elim
  | succ d ih =>
    intro t w tb b cap a h hw hty hT hL
    obtain ⟨pl, nm, u, bl, hc, hu, hk⟩ := h
    obtain ⟨au, cu, rfl, hu⟩ := hu
    have hkt := kids_ty hw hty
    have hrec : ∀ j, j < t.kids.length → (t.kid j ∈ t.kids) := fun j hj => by unfold Tr.kid; rw [List.getD_eq_getElem?_getD, List.getElem?_eq_getElem hj]; exact List.getElem_mem hj
    have W : ∀ j (hj : j < t.kids.length), ∀ w1, Below w.heap.size w w1 → Calls Tryz.prog 78 #[.pointer (some ⟨tb, 0, none⟩), .pointer (some ⟨bl j, 0, none⟩)] w1 fun e w' => e = .returned (.int .i64 (evT lv fl d (t.kid j))) ∧ Below w1.heap.size w1 w' := fun j hj w1 hb =>
      ih ((hk j hj).below hb) (hw.2 _ (hrec j hj)) (hkt _ (hrec j hj)) (hT.below hb) (hL.below hb)
    have hin : ∀ j (hj : j < t.kids.length), HasT (tyTr lt d (t.kid j)) (evT lv fl d (t.kid j)) := fun j hj => ev_has hV hF (hw.2 _ (hrec j hj)) (hkt _ (hrec j hj))
    rw [evT]
    rcases hw.1 with ⟨hkk, hs, hn, hl⟩ | ⟨hkk, x, hs⟩ | ⟨hkk, x, y, z, hs⟩ | ⟨hkk, x, y, hs⟩
    · rw [hs] at hc ⊢
      have h2 : t.k = 2 → 0 ≤ t.l ∧ t.l.toNat < lv.length := fun h2 => by
        refine ⟨hl h2, ?_⟩
        rw [tyTr, if_pos hs] at hty
        unfold wordTy at hty
        rw [if_neg (by omega), if_pos h2] at hty
        have : t.l.toNat < lt.length := by
          by_cases e : t.l.toNat < lt.length
          · exact e
          · exfalso; apply hty
            rw [List.getD_eq_getElem?_getD, List.getElem?_eq_none (by omega)]; rfl
        omega
      exact ptell_leaf hkk hc hT hL hlv h2
    · have hlen : t.kids.length = 1 := by rw [hs]; rfl
      rw [hlen] at hc hu
      obtain ⟨g, rfl, d0⟩ := hu 0 (by omega)
      have e0 : t.kid 0 = x := by unfold Tr.kid; rw [hs]; rfl
      have c0 := hc.c0
      rw [hkk] at c0
      have h01 : evT lv fl d (t.kid 0) = 0 ∨ evT lv fl d (t.kid 0) = 1 := by
        have h := hin 0 (by omega)
        refine h.2 ?_
        rw [tyTr, hs, if_neg (by simp)] at hty
        simp only [List.map_cons, List.map_nil, overTy] at hty
        rw [e0]
        by_cases e : tyTr lt d x = 2
        · exact e
        · rw [if_neg e] at hty; exact absurd rfl hty
      have h := ptell_not c0 hc.c4 d0 h01 (W 0 (by omega))
      rw [e0] at h
      rw [hs]; exact h
    · have hlen : t.kids.length = 3 := by rw [hs]; rfl
      rw [hlen] at hc hu
      obtain ⟨g, rfl, d0⟩ := hu 0 (by omega)
      obtain ⟨g1, e1, d1⟩ := hu 1 (by omega)
      obtain ⟨g2, e2, d2⟩ := hu 2 (by omega)
      simp at e1 e2
      rw [← e1] at d1
      rw [← e2] at d2
      have q0 : t.kid 0 = x := by unfold Tr.kid; rw [hs]; rfl
      have q1 : t.kid 1 = y := by unfold Tr.kid; rw [hs]; rfl
      have q2 : t.kid 2 = z := by unfold Tr.kid; rw [hs]; rfl
      have c0 := hc.c0
      rw [hkk] at c0
      have h := ptell_if c0 hc.c4 d0 d1 d2 (W 0 (by omega)) (W 1 (by omega)) (W 2 (by omega))
      rw [q0, q1, q2] at h
      rw [hs]; exact h
    · have hlen : t.kids.length = 2 := by rw [hs]; rfl
      rw [hlen] at hc hu
      obtain ⟨g, rfl, d0⟩ := hu 0 (by omega)
      obtain ⟨g1, e1, d1⟩ := hu 1 (by omega)
      simp at e1
      rw [← e1] at d1
      have q0 : t.kid 0 = x := by unfold Tr.kid; rw [hs]; rfl
      have q1 : t.kid 1 = y := by unfold Tr.kid; rw [hs]; rfl
      have h := ptell_two hkk hc.c0 hc.c4 d0 d1 (hin 0 (by omega)).1 (hin 1 (by omega)).1 (W 0 (by omega)) (W 1 (by omega))
      rw [q0, q1] at h
      rw [hs]; exact h
end Go.Proofs.YtfkdailfcmnjlaaGreatDoor

namespace Go.Proofs.YtfkdailfcmnjlaaGreatDoor
open Go Go.RowKit
set_option maxRecDepth 100000

/-- A part as a tree. -/
def toTr (ix : List UInt8 → Int) (L : List Pt) : Nat → Nat → Tr
  | 0, _ => noTr
  | f + 1, i => ⟨kindOf (L.getD i noPt).tok, nmOf (L.getD i noPt).tok, if kindOf (L.getD i noPt).tok = 2 then ix (ownOf (L.getD i noPt).tok) else 0, (L.getD i noPt).subs.map (toTr ix L f)⟩
theorem under_gen {w : World} {u : Value} {n : Nat} {bl : Nat → Nat} (h : UnderAt w u n bl) : UnderG w u n bl := by
  obtain ⟨a, e, h⟩ := h.slice
  refine ⟨a, n, e, fun j hj => ?_⟩
  obtain ⟨g, e, hg⟩ := h j hj
  exact ⟨g, e, under_cell hg j hj⟩
theorem kid_map (ix : List UInt8 → Int) (L : List Pt) (f : Nat) (l : List Nat) (j : Nat) (h : j < l.length) (k : Nat) (n a : Int) : Tr.kid ⟨k, n, a, l.map (toTr ix L f)⟩ j = toTr ix L f (l.getD j 0) := by
  unfold Tr.kid; simp [List.getD_eq_getElem?_getD, h]
theorem CondS.tr {bs : Nat} {ix : List UInt8 → Int} {L : List Pt} {w : World} (f : Nat) : ∀ {lo i b : Nat}, TreeF f L lo i → CondS bs L (N1 ix) w i b → TrAt f w b (toTr ix L f i) := by
  induction f with
  | zero => intro lo i b h; exact h.elim
  | succ f ih =>
    intro lo i b hT hC
    obtain ⟨u, n, bl, hi, hlo, hn, hb, hu, hs⟩ := hC.inv
    obtain ⟨⟨c0, c1, c2, c3, c4, c5⟩, _⟩ := cd_cells hb
    have hsub := forest_mem _ hT.2.2
    unfold N1 at hn
    rw [toTr]
    refine ⟨_, _, u, bl, ⟨c0, c1, c2, c3, c4, by rw [← hn]; exact c5⟩, by simpa using under_gen hu, fun j hj => ?_⟩
    have hj' : j < (L.getD i noPt).subs.length := by simpa using hj
    rw [kid_map _ _ _ _ _ hj']
    obtain ⟨lo', hT'⟩ := hsub _ (getD_in hj')
    exact ih hT' (hs j hj')

theorem over_same {k : Nat} {us : List Nat} (h0 : 0 ∉ us) (h : (k = 19 ∧ us.length = 1) ∨ (k = 14 ∧ us.length = 3) ∨ (twoK k ∧ us.length = 2)) : overTy k us = overK k us := by
  rcases h with ⟨rfl, hl⟩ | ⟨rfl, hl⟩ | ⟨hk, hl⟩
  · match us, hl with
    | [a], _ => simp [overTy, overK, ifAllK]
  · match us, hl with
    | [a, b, c], _ =>
      simp only [overTy, overK, ifAllK, List.getD_cons_zero, List.getD_cons_succ, List.drop_succ_cons, List.drop_zero, List.all_cons, List.all_nil]
      by_cases h1 : a = 2
      · by_cases h2 : b = c
        · simp [h1, h2]
        · simp [h1, h2, Ne.symm h2]
      · simp [h1]
  · match us, hl with
    | [a, b], _ =>
      simp at h0
      unfold twoK at hk
      rcases hk with rfl | rfl | rfl | rfl | rfl | rfl | rfl
      · simp [overTy, overK, ifAllK]
      · simp [overTy, overK, ifAllK]
      · simp only [overTy, overK, ifAllK, List.getD_cons_zero, List.all_cons, List.all_nil]
        by_cases h2 : a = b
        · subst h2; simp; omega
        · simp [h2, Ne.symm h2]
      · simp [overTy, overK, ifAllK]
      · simp [overTy, overK, ifAllK]
      · simp [overTy, overK, ifAllK]
      · simp [overTy, overK, ifAllK]
theorem word_same (lt : List Nat) {k : Nat} (n l : Int) (h : 20 ≤ k ∧ k ≤ 35) : wordTy lt ⟨k, n, l, []⟩ = wordK k := by
  unfold wordTy wordK fieldTy
  simp only []
  (repeat' split) <;> omega
theorem two_kinds : ∀ x ∈ ([[43], [45], [60], [60, 61], [61], [111, 114], [97, 110, 100]] : List (List UInt8)), kn x = 6 ∨ kn x = 7 ∨ kn x = 8 ∨ kn x = 9 ∨ kn x = 10 ∨ kn x = 17 ∨ kn x = 18 := by decide
theorem two_text {x : List UInt8} (h : x ∈ ([[43], [45], [60], [60, 61], [61], [111, 114], [97, 110, 100]] : List (List UInt8))) (a b : Int) : two2 (kn x) a b = twoI x a b := by
  simp only [List.mem_cons, List.not_mem_nil, or_false] at h
  rcases h with rfl | rfl | rfl | rfl | rfl | rfl | rfl
  · rw [show kn [43] = 6 from by decide]; rfl
  · rw [show kn [45] = 7 from by decide]; rfl
  · rw [show kn [60] = 10 from by decide]; rfl
  · rw [show kn [60, 61] = 9 from by decide]; rfl
  · rw [show kn [61] = 8 from by decide]; rfl
  · rw [show kn [111, 114] = 17 from by decide]; rfl
  · rw [show kn [97, 110, 100] = 18 from by decide]; rfl

/-- A part of a type, as a tree: well formed, of that type, telling the same. -/
structure TrOK (xs : List Itm) (its : List UInt8) (vals fl : List Int) (L : List Pt) (f i : Nat) : Prop where
  wf : WfT f (toTr (idx (giv xs)) L f i)
  ty : tyTr (letTys (xs.take its.length) its) f (toTr (idx (giv xs)) L f i) = tcode (tyOf xs its L f i)
  ev : evT (letVals (xs.take vals.length) vals) fl f (toTr (idx (giv xs)) L f i) = tellF xs vals fl L f i
theorem to_tr {L : List Pt} {xs : List Itm} {its : List UInt8} {vals fl : List Int} (hW : ∀ k, k < L.length → TokW (L.getD k noPt).tok) (hits : ∀ c ∈ its, isTy c) (hle : its.length ≤ xs.length) (hvl : vals.length = its.length) (hN : ∀ k, k < L.length → (L.getD k noPt).tok.k = 110 → decVal (L.getD k noPt).tok.text ≤ 9223372036854775807) (f : Nat) :
    ∀ {lo i : Nat}, TreeF f L lo i → Given xs its.length L lo (i + 1) → tyOf xs its L f i ≠ 0 → TrOK xs its vals fl L f i := by
  induction f with
  | zero => intro lo i h; exact h.elim
  | succ f ih =>
    intro lo i hT hG hty
    have hsub := forest_bounds _ hT.2.2
    have hall : ∀ j ∈ (L.getD i noPt).subs, tyOf xs its L f j ≠ 0 ∧ isTy (tyOf xs its L f j) ∧ TrOK xs its vals fl L f j := fun j hj => by
      obtain ⟨lo', h1, h2, h3⟩ := hsub j hj
      have hg' : Given xs its.length L lo' (j + 1) := fun q a b => hG q (by omega) (by omega)
      have hne : tyOf xs its L f j ≠ 0 := fun e => by
        rw [tyOf] at hty
        rw [if_pos (by rw [List.contains_iff_mem, ← e]; exact List.mem_map_of_mem hj)] at hty
        exact hty rfl
      refine ⟨hne, ?_, ih h3 hg' hne⟩
      rcases tyOf_ty hW hits f h3 hg' with h | h
      · exact absurd h hne
      · exact h
    have hmt : ((L.getD i noPt).subs.map (toTr (idx (giv xs)) L f)).map (tyTr (letTys (xs.take its.length) its) f) = (L.getD i noPt).subs.map fun j => tcode (tyOf xs its L f j) := by
      rw [List.map_map]; exact List.map_congr_left fun j hj => (hall j hj).2.2.ty
    have hmv : ((L.getD i noPt).subs.map (toTr (idx (giv xs)) L f)).map (evT (letVals (xs.take vals.length) vals) fl f) = (L.getD i noPt).subs.map (tellF xs vals fl L f) := by
      rw [List.map_map]; exact List.map_congr_left fun j hj => (hall j hj).2.2.ev
    have hc0 : ((L.getD i noPt).subs.map (tyOf xs its L f)).contains 0 = false := by
      rw [Bool.eq_false_iff]; intro e
      rw [List.contains_iff_mem, List.mem_map] at e
      obtain ⟨j, hj, e⟩ := e
      exact (hall j hj).1 e
    have htyE : tyOf xs its L (f + 1) i = UInt8.ofNat (tyCase xs its (L.getD i noPt).tok ((L.getD i noPt).subs.map (tyOf xs its L f))) := by
      rw [tyOf, if_neg (by rw [hc0]; simp)]
    have hwk : ∀ c ∈ (L.getD i noPt).subs.map (toTr (idx (giv xs)) L f), WfT f c := fun c hc => by
      obtain ⟨j, hj, rfl⟩ := List.mem_map.1 hc
      exact (hall j hj).2.2.wf
    have hz : 0 ∉ (L.getD i noPt).subs.map fun j => tcode (tyOf xs its L f j) := fun e => by
      obtain ⟨j, hj, e⟩ := List.mem_map.1 e
      exact (hall j hj).1 ((tcode_zero (.inr (hall j hj).2.1)).1 e)
    rw [show tyOf xs its L (f + 1) i = _ from htyE] at hty
    -- over others
    have over : ∀ (hn : (L.getD i noPt).subs ≠ []), ((kindOf (L.getD i noPt).tok = 19 ∧ (L.getD i noPt).subs.length = 1) ∨ (kindOf (L.getD i noPt).tok = 14 ∧ (L.getD i noPt).subs.length = 3) ∨ (twoK (kindOf (L.getD i noPt).tok) ∧ (L.getD i noPt).subs.length = 2)) → (∀ l : List Int, l.length = (L.getD i noPt).subs.length → overT (kindOf (L.getD i noPt).tok) (wordT (letVals (xs.take vals.length) vals) fl (toTr (idx (giv xs)) L (f + 1) i)) l = overI (L.getD i noPt).tok.text (wordI xs vals fl (L.getD i noPt).tok) l) → TrOK xs its vals fl L (f + 1) i := fun hn hk hov => by
      refine ⟨⟨?_, hwk⟩, ?_, ?_⟩
      · rw [toTr]
        rcases hk with ⟨h1, h2⟩ | ⟨h1, h2⟩ | ⟨h1, h2⟩
        · exact .inr (.inl ⟨h1, by obtain ⟨a, e⟩ := List.length_eq_one_iff.1 h2; exact ⟨_, by rw [e]; rfl⟩⟩)
        · exact .inr (.inr (.inl ⟨h1, by obtain ⟨a, b, c, e⟩ := len_three h2; exact ⟨_, _, _, by rw [e]; rfl⟩⟩))
        · exact .inr (.inr (.inr ⟨h1, by obtain ⟨a, b, e⟩ := len_two h2; exact ⟨_, _, by rw [e]; rfl⟩⟩))
      · rw [htyE, (ty_over hT.2.1 hn fun j hj => (hall j hj).2.1).1, toTr, tyTr]
        simp only [List.map_eq_nil_iff]
        rw [if_neg hn, hmt]
        exact over_same hz (by simpa using hk)
      · have e := hov ((L.getD i noPt).subs.map (tellF xs vals fl L f)) (by simp)
        rw [tellF, ← e, evT]
        conv => lhs; rw [toTr]
        simp only [hmv]
        rfl
    rcases hT.2.1 with ⟨ha, hs⟩ | ⟨hw, hl⟩ | ⟨hw, hl⟩ | ⟨m, _, hj, hl⟩
    · -- a word
      have htw := hW i hT.1
      rw [hs] at hty
      have hkn : (toTr (idx (giv xs)) L (f + 1) i).kids = [] := by rw [toTr]; show List.map _ _ = []; rw [hs]; rfl
      have leaf : leafK (kindOf (L.getD i noPt).tok) → (kindOf (L.getD i noPt).tok = 1 → In64 (nmOf (L.getD i noPt).tok)) → (kindOf (L.getD i noPt).tok = 2 → 0 ≤ idx (giv xs) (ownOf (L.getD i noPt).tok)) →
          wordTy (letTys (xs.take its.length) its) (toTr (idx (giv xs)) L (f + 1) i) = tcode (UInt8.ofNat (tyCase xs its (L.getD i noPt).tok [])) → wordT (letVals (xs.take vals.length) vals) fl (toTr (idx (giv xs)) L (f + 1) i) = wordI xs vals fl (L.getD i noPt).tok → TrOK xs its vals fl L (f + 1) i := fun k1 k2 k3 k4 k5 => by
        refine ⟨⟨.inl ⟨k1, hkn, k2, fun e => ?_⟩, hwk⟩, ?_, ?_⟩
        · rw [toTr] at e ⊢
          simp only [] at e ⊢
          rw [if_pos e]; exact k3 e
        · rw [htyE, hs, List.map_nil, ← k4, tyTr, if_pos hkn]
        · rw [tellF, hs, evT]
          rw [hkn]
          exact k5
      by_cases hn : (L.getD i noPt).tok.k = 110
      · have hk : kindOf (L.getD i noPt).tok = 1 := by unfold kindOf; rw [if_pos hn]
        have hm := hN i hT.1 hn
        refine leaf (.inl hk) (fun _ => ?_) (fun e => by omega) ?_ ?_
        · unfold nmOf In64; rw [if_pos hn]; omega
        · have e : tyCase xs its (L.getD i noPt).tok [] = 110 := by unfold tyCase; rw [if_pos hn]
          rw [e, toTr]; unfold wordTy; simp only []; rw [if_pos hk]; rfl
        · rw [toTr]; unfold wordT wordI nmOf; simp only []; rw [if_pos hk, if_pos hn, if_pos hn]
      by_cases ho : (L.getD i noPt).tok.k = 111
      · have hk : kindOf (L.getD i noPt).tok = 2 := kind_two.2 ho
        obtain ⟨hne, h0⟩ := hG i hT.le (by omega) ho
        have hix : ¬ idx (giv (xs.take its.length)) (L.getD i noPt).tok.text < 0 := fun h => by have := (giv_ix _ hne xs its.length).1 h; omega
        have hke := giv_keep its.length (xs := xs) (s := (L.getD i noPt).tok.text) (by omega)
        have hown : ownOf (L.getD i noPt).tok = (L.getD i noPt).tok.text := by unfold ownOf; rw [if_pos ho]
        refine leaf (.inr (.inl hk)) (fun e => by omega) (fun _ => by rw [hown, hke]; omega) ?_ ?_
        · have e : tyCase xs its (L.getD i noPt).tok [] = (its.getD (letIx xs (L.getD i noPt).tok.text its.length).toNat 0).toNat := by
            unfold tyCase; rw [if_neg (by omega), if_pos ho]
          rw [e, UInt8.ofNat_toNat, toTr]
          unfold wordTy
          simp only []
          rw [if_neg (by omega), if_pos hk, if_pos hk, hown, hke]
          exact letTys_at _ hne xs its hle h0
        · rw [toTr]
          unfold wordT wordI
          simp only []
          rw [if_neg (by omega), if_pos hk, if_pos hk, if_neg hn, if_pos ho, hown, hke]
          rw [← hvl] at h0 ⊢
          exact letVals_at _ hne xs vals (by omega) h0
      · obtain ⟨hm, hk, h20, h35⟩ := alone_kind htw ha hn ho
        refine leaf (.inr (.inr ⟨h20, h35⟩)) (fun e => by omega) (fun e => by omega) ?_ ?_
        · rw [(ty_leaf xs its htw ha ho).1, toTr, hs]
          exact word_same _ _ _ ⟨h20, h35⟩
        · rw [word_kind htw ha hn ho, toTr]
          unfold wordT
          simp only []
          rw [if_neg (by omega), if_neg (by omega)]; rfl
    · obtain ⟨e, hk⟩ := isW_text hw
      have hkk : kindOf (L.getD i noPt).tok = 19 := by rw [kind_word hk, e]; decide
      refine over (by intro h; rw [h] at hl; simp at hl) (.inl ⟨hkk, hl⟩) fun l hll => ?_
      rw [hl] at hll
      obtain ⟨a, rfl⟩ := List.length_eq_one_iff.1 hll
      rfl
    · obtain ⟨e, hk⟩ := isW_text hw
      have hkk : kindOf (L.getD i noPt).tok = 14 := by rw [kind_word hk, e]; decide
      refine over (by intro h; rw [h] at hl; simp at hl) (.inr (.inl ⟨hkk, hl⟩)) fun l hll => ?_
      rw [hl] at hll
      obtain ⟨a, b, c, rfl⟩ : ∃ a b c, l = [a, b, c] := by
        match l, hll with
        | [a, b, c], _ => exact ⟨a, b, c, rfl⟩
      rfl
    · obtain ⟨e, hk⟩ := joins_text hj
      have hkk : kindOf (L.getD i noPt).tok = kn (L.getD i noPt).tok.text := kind_word hk
      refine over (by intro h; rw [h] at hl; simp at hl) (.inr (.inr ⟨by rw [hkk]; exact two_kinds _ e, hl⟩)) fun l hll => ?_
      rw [hl] at hll
      obtain ⟨a, b, rfl⟩ : ∃ a b, l = [a, b] := by
        match l, hll with
        | [a, b], _ => exact ⟨a, b, rfl⟩
      show two2 _ _ _ = twoI _ _ _
      rw [hkk]; exact two_text e a b
end Go.Proofs.YtfkdailfcmnjlaaGreatDoor
