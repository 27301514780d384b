/-
  A copy of rows of pairs; the law's loan of a state. Scalars of what is written: pick, known, truth, deeper, plus, minus. What is made of words: conditions, as they are printed and with other brackets, and what they tell. A policy that was written: as it is printed, with other brackets; what it says. Digits of what is written. A policy that is written: one rule more (plain).
-/
import Derived.Test.YtfkdailfcmnjlaaGreatDoorTells01
import Derived.Test.YtfkdailfcmnjlaaGreatDoorTells02
import Derived.Test.YtfkdailfcmnjlaaGreatDoorTells03
import Derived.Test.YtfkdailfcmnjlaaGreatDoorTells04
import Derived.Test.YtfkdailfcmnjlaaGreatDoorTells05
import Derived.Test.YtfkdailfcmnjlaaGreatDoorTells06
import Derived.Test.YtfkdailfcmnjlaaGreatDoorTells07
import Derived.Test.YtfkdailfcmnjlaaGreatDoorTells08
import Derived.Test.YtfkdailfcmnjlaaGreatDoorTells09
import Derived.Test.YtfkdailfcmnjlaaGreatDoorTells10
import Derived.Test.YtfkdailfcmnjlaaGreatDoorTells11
import Derived.Test.YtfkdailfcmnjlaaGreatDoorTells12
import Derived.Test.YtfkdailfcmnjlaaGreatDoorTells13
import Derived.Test.YtfkdailfcmnjlaaGreatDoorTells14
import Derived.Test.YtfkdailfcmnjlaaGreatDoorTells15
import Derived.Test.YtfkdailfcmnjlaaGreatDoorTells16
import Derived.Test.YtfkdailfcmnjlaaGreatDoorTells17
import Derived.Test.YtfkdailfcmnjlaaGreatDoorTells18
import Derived.Test.YtfkdailfcmnjlaaGreatDoorTells19
import Derived.Test.YtfkdailfcmnjlaaGreatDoorTells20
import Derived.Test.YtfkdailfcmnjlaaGreatDoorTells21
import Derived.Test.YtfkdailfcmnjlaaGreatDoorTells22
import Derived.Test.YtfkdailfcmnjlaaGreatDoorTells23
import Derived.Test.YtfkdailfcmnjlaaGreatDoorLays
import Derived.Test.YtfkdailfcmnjlaaGreatDoorLays2
import Derived.Laws.CopyOwn
import Derived.WalkKit
import Derived.Deep.QuietTactic
import Derived.BigQuiet
import Derived.WalkSpells
import GoSem.Op.String
import Derived.Deep.AppendLies
import Derived.Deep.RegionHeld3
import Derived.Deep.DrawnRows
import Derived.Deep.RegionHeldLaw
import Derived.Deep.RegionLaw
import Derived.Lib.ParseIntBCases
import Derived.Deep.OwnRows
import Derived.Lib.LaidTab
import Derived.Lib.AppendIntMem
import Derived.Shelf.Strings.Builder1
set_option linter.unusedVariables false
set_option linter.unusedSimpArgs false
namespace Go.Proofs.YtfkdailfcmnjlaaGreatDoor
open Go Go.RowKit
set_option maxRecDepth 100000
attribute [local go_sem ↓] Go.wp_at_zero Go.wp_at_succ

theorem info_level : (Tryz.prog.info? 108).map (fun i => (i.zero, i.size, i.bytes)) = some (some (.agg #[.string ⟨#[]⟩, .int .i64 0]), 2, 24) := by kernel_rfl
theorem info_member : (Tryz.prog.info? 110).map (fun i => (i.zero, i.size, i.bytes)) = some (some (.agg #[.string ⟨#[]⟩, .int .i64 0]), 2, 24) := by kernel_rfl

/-- A row of pairs. -/
structure PairRow (w : World) (g : Nat) (ty : TypeId) (k : Nat) (f : Nat → List UInt8 × Int) : Prop where
  blk : ∃ cs, w.heap[g]? = some (.cells cs ty (0, 0)) ∧ cs.size = k * 2
  fst : ∀ j, j < k → w.cell? ⟨g, j * 2, none⟩ = some (S (f j).1)
  snd : ∀ j, j < k → w.cell? ⟨g, j * 2 + 1, none⟩ = some (.int .i64 (f j).2)
theorem PairRow.of_block {w w' : World} {g : Nat} {ty : TypeId} {k : Nat} {f : Nat → List UInt8 × Int} (h : PairRow w g ty k f) (hb : w'.heap[g]? = w.heap[g]?) : PairRow w' g ty k f :=
  ⟨by rw [hb]; exact h.blk, fun j hj => by rw [World.cell?_of_block (w := w) (a := ⟨g, j * 2, none⟩) hb]; exact h.fst j hj, fun j hj => by rw [World.cell?_of_block (w := w) (a := ⟨g, j * 2 + 1, none⟩) hb]; exact h.snd j hj⟩
theorem PairRow.put {w : World} {g : Nat} {ty : TypeId} {k : Nat} {f f' : Nat → List UInt8 × Int} (h : PairRow w g ty k f) {j : Nat} (hj : j < k) {x : List UInt8} {y : Int} (he : f' j = (x, y)) (ho : ∀ i, i < k → i ≠ j → f' i = f i) : PairRow ((w.setCell ⟨g, j * 2, none⟩ (S x)).setCell ⟨g, j * 2 + 1, none⟩ (.int .i64 y)) g ty k f' := by
  obtain ⟨cs, hc, hs⟩ := h.blk
  have e1 := heap_setCell_same w g (j * 2) cs ty (S x) hc
  have e2 := heap_setCell_same _ g (j * 2 + 1) _ ty (.int .i64 y) e1
  have hcell : ∀ q, ((w.setCell ⟨g, j * 2, none⟩ (S x)).setCell ⟨g, j * 2 + 1, none⟩ (.int .i64 y)).cell? ⟨g, q, none⟩ = if q = j * 2 + 1 then some (.int .i64 y) else if q = j * 2 then some (S x) else w.cell? ⟨g, q, none⟩ := fun q => by
    rw [cell_of_row _ g q _ _ _ e2, cell_of_row w g q _ _ _ hc]
    by_cases a : q = j * 2 + 1
    · subst a; rw [if_pos rfl, Array.getElem?_setIfInBounds, if_pos rfl, if_pos (by simp; omega)]
    · rw [if_neg a]
      by_cases b : q = j * 2
      · subst b; rw [if_pos rfl, Array.getElem?_setIfInBounds_ne (by omega), Array.getElem?_setIfInBounds, if_pos rfl, if_pos (by omega)]
      · rw [if_neg b, Array.getElem?_setIfInBounds_ne (by omega), Array.getElem?_setIfInBounds_ne (by omega)]
  refine ⟨⟨_, e2, by simpa using hs⟩, fun i hi => ?_, fun i hi => ?_⟩
  · rw [hcell]
    by_cases e : i = j
    · subst e; rw [if_neg (by omega), if_pos rfl, he]
    · rw [if_neg (by omega), if_neg (by omega), ho i hi e]; exact h.fst i hi
  · rw [hcell]
    by_cases e : i = j
    · subst e; rw [if_pos rfl, he]
    · rw [if_neg (by omega), if_neg (by omega), ho i hi e]; exact h.snd i hi
/-- The cells of pairs. -/
def pcells (ls : List (List UInt8 × Int)) : List Value := ls.flatMap fun x => [S x.1, .int .i64 x.2]
theorem pcells_at (ls : List (List UInt8 × Int)) : ∀ j, j < ls.length → (pcells ls)[j * 2]? = some (S (ls.getD j ([], 0)).1) ∧ (pcells ls)[j * 2 + 1]? = some (.int .i64 (ls.getD j ([], 0)).2) := by
  induction ls with
  | nil => intro j hj; simp at hj
  | cons x r ih =>
    intro j hj
    have e : pcells (x :: r) = S x.1 :: .int .i64 x.2 :: pcells r := rfl
    cases j with
    | zero => rw [e]; exact ⟨rfl, rfl⟩
    | succ j =>
      obtain ⟨a, b⟩ := ih j (by simpa using hj)
      rw [e, show (j + 1) * 2 = j * 2 + 1 + 1 by omega, show j * 2 + 1 + 1 + 1 = (j * 2 + 1) + 1 + 1 by omega]
      simp only [List.getElem?_cons_succ, List.getD_cons_succ]
      exact ⟨a, b⟩
end Go.Proofs.YtfkdailfcmnjlaaGreatDoor

namespace Go.Proofs.YtfkdailfcmnjlaaGreatDoor
open Go Go.RowKit
set_option maxRecDepth 100000
attribute [local go_sem ↓] Go.wp_at_zero Go.wp_at_succ

/-- Which of some a raw number speaks of. -/
def pickN (c : Int) (n : Nat) : Nat := ((if c < 0 then -(c + 1) else c) % (n : Int)).toNat
theorem pickN_lt (c : Int) {n : Nat} (h : 0 < n) : pickN c n < n := by
  unfold pickN
  have h1 := Int.emod_nonneg (if c < 0 then -(c + 1) else c) (b := (n : Int)) (by omega)
  have h2 := Int.emod_lt_of_pos (if c < 0 then -(c + 1) else c) (b := (n : Int)) (by omega)
  omega
set_option maxHeartbeats 2000000 in
theorem pickN_any {c : Int} (hc : In64 c) {n : Nat} (hn : 0 < n) (hn2 : n ≤ 9223372036854775807) (w : World) : Calls Tryz.prog 36 #[.int .i64 c, .int .i64 n] w fun e w' => e = .returned (.int .i64 (pickN c n : Nat)) ∧ w' = w := by
  have HR : Hid (((pickN c n : Nat) : Int) = (if c < 0 then -(c + 1) else c) % (n : Int)) := by
    show _ = _
    unfold pickN
    have h1 := Int.emod_nonneg (if c < 0 then -(c + 1) else c) (b := (n : Int)) (by omega)
    omega
  have hlt := pickN_lt c hn
  generalize pickN c n = R at *
  unfold In64 at hc
  obtain ⟨h1, h2⟩ := hc
  have hn0 : ¬ (n : Int) = 0 := by omega
  have hn1 : ((n : Int) == 0) = false := by simp; omega
  have hR64 : IntKind.i64.wrap (R : Int) = (R : Int) := by rw [IntKind.wrap_i64]; omega
  by_cases h0 : c < 0
  · have HR2 : Hid ((R : Int) = (-(c + 1)) % (n : Int)) := by have := HR.out; rw [if_pos h0] at this; exact this
    have hz : (0 : Int) ≤ -(c + 1) := by omega
    have hw1 : IntKind.i64.wrap (c + 1) = c + 1 := by rw [IntKind.wrap_i64]; omega
    have hw2 : IntKind.i64.wrap (-(c + 1)) = -(c + 1) := by rw [IntKind.wrap_i64]; omega
    have ht : (-(c + 1)).tmod (n : Int) = (R : Int) := by rw [HR2.out]; exact Int.tmod_eq_emod_of_nonneg hz
    clear HR HR2
    go_enter Tryz.func36, Tryz.ntmps36
    go_wp2
    go_ret
    exact ⟨by first | rfl | simp [ht, hR64], rfl⟩
  · have HR2 : Hid ((R : Int) = c % (n : Int)) := by have := HR.out; rw [if_neg h0] at this; exact this
    have hz : (0 : Int) ≤ c := by omega
    have ht : c.tmod (n : Int) = (R : Int) := by rw [HR2.out]; exact Int.tmod_eq_emod_of_nonneg hz
    clear HR HR2
    go_enter Tryz.func36, Tryz.ntmps36
    go_wp2
    go_ret
    exact ⟨by first | rfl | simp [ht, hR64], rfl⟩
set_option maxHeartbeats 2000000 in
theorem kknown_any (n : Int) (w : World) : Calls Tryz.prog 123 #[.int .i64 n] w fun e w' => e = .returned (.int .i64 (knownI n)) ∧ w' = w := by
  by_cases h0 : n < 0
  · have HC : Hid (knownI n = 0) := by show _ = _; unfold knownI; rw [if_pos (.inl h0)]
    have h1 : ¬ 0 ≤ n := by omega
    go_enter Tryz.func123, Tryz.ntmps123
    go_wp2
    go_ret
    exact ⟨by rw [HC.out]; rfl, rfl⟩
  · have h1 : 0 ≤ n := by omega
    by_cases h4 : n ≤ 4
    · have HC : Hid (knownI n = n) := by show _ = _; unfold knownI; rw [if_neg (by omega)]
      have hw : IntKind.i64.wrap n = n := by rw [IntKind.wrap_i64]; omega
      go_enter Tryz.func123, Tryz.ntmps123
      go_wp2
      go_ret
      exact ⟨by rw [HC.out]; first | rfl | simp [hw], rfl⟩
    · have HC : Hid (knownI n = 0) := by show _ = _; unfold knownI; rw [if_pos (.inr (by omega))]
      go_enter Tryz.func123, Tryz.ntmps123
      go_wp2
      go_ret
      exact ⟨by rw [HC.out]; rfl, rfl⟩
set_option maxHeartbeats 2000000 in
theorem ktruth_any (b : Bool) (w : World) : Calls Tryz.prog 76 #[.bool b] w fun e w' => e = .returned (.int .i64 (truthI b)) ∧ w' = w := by
  cases b
  all_goals
    go_enter Tryz.func76, Tryz.ntmps76
    go_wp2
    go_ret
    exact ⟨rfl, rfl⟩
set_option maxHeartbeats 2000000 in
theorem deeper_any (a b c : Nat) (ha : a ≤ 1000) (hb : b ≤ 1000) (hc : c ≤ 1000) (w : World) : Calls Tryz.prog 124 #[.int .i64 a, .int .i64 b, .int .i64 c] w fun e w' => e = .returned (.int .i64 ((max (max a b) c + 1 : Nat) : Int)) ∧ w' = w := by
  by_cases h1 : a < b
  · have e1 : max a b = b := by omega
    rw [e1]
    by_cases h2 : b < c
    · have e2 : max b c = c := by omega
      rw [e2]
      have hi1 : (a : Int) < b := by omega
      have hi2 : (b : Int) < c := by omega
      go_enter Tryz.func124, Tryz.ntmps124
      go_wp2
      go_ret
      exact ⟨by go_num, rfl⟩
    · have e2 : max b c = b := by omega
      rw [e2]
      have hi1 : (a : Int) < b := by omega
      have hi2 : ¬ (b : Int) < c := by omega
      go_enter Tryz.func124, Tryz.ntmps124
      go_wp2
      go_ret
      exact ⟨by go_num, rfl⟩
  · have e1 : max a b = a := by omega
    rw [e1]
    by_cases h2 : a < c
    · have e2 : max a c = c := by omega
      rw [e2]
      have hi1 : ¬ (a : Int) < b := by omega
      have hi2 : (a : Int) < c := by omega
      go_enter Tryz.func124, Tryz.ntmps124
      go_wp2
      go_ret
      exact ⟨by go_num, rfl⟩
    · have e2 : max a c = a := by omega
      rw [e2]
      have hi1 : ¬ (a : Int) < b := by omega
      have hi2 : ¬ (a : Int) < c := by omega
      go_enter Tryz.func124, Tryz.ntmps124
      go_wp2
      go_ret
      exact ⟨by go_num, rfl⟩
/-- What a sum of two comes to within 64 bits. -/
theorem clamp_mid {x : Int} (h1 : -9223372036854775808 ≤ x) (h2 : x ≤ 9223372036854775807) : clampI x = x := by unfold clampI; rw [if_neg (by omega), if_neg (by omega)]
set_option maxHeartbeats 2000000 in
theorem kplus_any {a b : Int} (ha : In64 a) (hb : In64 b) (w : World) : Calls Tryz.prog 74 #[.int .i64 a, .int .i64 b] w fun e w' => e = .returned (.int .i64 (clampI (a + b))) ∧ w' = w := by
  unfold In64 at ha hb
  by_cases hm : -9223372036854775808 ≤ a + b ∧ a + b ≤ 9223372036854775807
  · have w3 : IntKind.i64.wrap (a + b) = a + b := wrap64 hm
    have HC : Hid (clampI (a + b) = a + b) := clamp_mid hm.1 hm.2
    have k1 : ¬ (0 < a ∧ 0 < b ∧ a + b < 0) := by omega
    have k2 : ¬ (a < 0 ∧ b < 0 ∧ 0 ≤ a + b) := by omega
    by_cases a0 : 0 < a
    · have a1 : ¬ a < 0 := by omega
      by_cases b0 : 0 < b
      · have c0 : ¬ a + b < 0 := by omega
        clear k1 k2
        go_enter Tryz.func74, Tryz.ntmps74
        go_wp2_with fail
        go_ret
        exact ⟨by rw [HC.out]; rfl, rfl⟩
      · clear k1 k2
        go_enter Tryz.func74, Tryz.ntmps74
        go_wp2_with fail
        go_ret
        exact ⟨by rw [HC.out]; rfl, rfl⟩
    · by_cases a1 : a < 0
      · by_cases b0 : b < 0
        · have c0 : ¬ 0 ≤ a + b := by omega
          clear k1 k2
          go_enter Tryz.func74, Tryz.ntmps74
          go_wp2_with fail
          go_ret
          exact ⟨by rw [HC.out]; rfl, rfl⟩
        · clear k1 k2
          go_enter Tryz.func74, Tryz.ntmps74
          go_wp2_with fail
          go_ret
          exact ⟨by rw [HC.out]; rfl, rfl⟩
      · clear k1 k2
        go_enter Tryz.func74, Tryz.ntmps74
        go_wp2_with fail
        go_ret
        exact ⟨by rw [HC.out]; rfl, rfl⟩
  · by_cases hp : 0 < a
    · have b0 : 0 < b := by omega
      have w3 : IntKind.i64.wrap (a + b) = a + b - 18446744073709551616 := by rw [IntKind.wrap_i64]; omega
      have HC : Hid (clampI (a + b) = 9223372036854775807) := by show _ = _; unfold clampI; rw [if_pos (by omega)]
      have c0 : a + b - 18446744073709551616 < 0 := by omega
      clear hm
      go_enter Tryz.func74, Tryz.ntmps74
      go_wp2_with fail
      go_ret
      exact ⟨by rw [HC.out]; rfl, rfl⟩
    · have a0 : a < 0 := by omega
      have b0 : b < 0 := by omega
      have w3 : IntKind.i64.wrap (a + b) = a + b + 18446744073709551616 := by rw [IntKind.wrap_i64]; omega
      have HC : Hid (clampI (a + b) = -9223372036854775808) := by show _ = _; unfold clampI; rw [if_neg (by omega), if_pos (by omega)]
      have c0 : 0 ≤ a + b + 18446744073709551616 := by omega
      clear hm
      go_enter Tryz.func74, Tryz.ntmps74
      go_wp2_with fail
      go_ret
      exact ⟨by rw [HC.out]; rfl, rfl⟩
set_option maxHeartbeats 2000000 in
theorem kminus_any {a b : Int} (ha : In64 a) (hb : In64 b) (w : World) : Calls Tryz.prog 75 #[.int .i64 a, .int .i64 b] w fun e w' => e = .returned (.int .i64 (clampI (a - b))) ∧ w' = w := by
  unfold In64 at ha hb
  by_cases hm : -9223372036854775808 ≤ a - b ∧ a - b ≤ 9223372036854775807
  · have w3 : IntKind.i64.wrap (a - b) = a - b := wrap64 hm
    have HC : Hid (clampI (a - b) = a - b) := clamp_mid hm.1 hm.2
    by_cases a0 : 0 ≤ a
    · have a1 : ¬ a < 0 := by omega
      by_cases b0 : b < 0
      · have c0 : ¬ a - b < 0 := by omega
        go_enter Tryz.func75, Tryz.ntmps75
        go_wp2_with fail
        go_ret
        exact ⟨by rw [HC.out]; rfl, rfl⟩
      · go_enter Tryz.func75, Tryz.ntmps75
        go_wp2_with fail
        go_ret
        exact ⟨by rw [HC.out]; rfl, rfl⟩
    · have a1 : a < 0 := by omega
      by_cases b0 : 0 < b
      · have c0 : ¬ 0 ≤ a - b := by omega
        go_enter Tryz.func75, Tryz.ntmps75
        go_wp2_with fail
        go_ret
        exact ⟨by rw [HC.out]; rfl, rfl⟩
      · go_enter Tryz.func75, Tryz.ntmps75
        go_wp2_with fail
        go_ret
        exact ⟨by rw [HC.out]; rfl, rfl⟩
  · by_cases hp : 0 ≤ a
    · have b0 : b < 0 := by omega
      have w3 : IntKind.i64.wrap (a - b) = a - b - 18446744073709551616 := by rw [IntKind.wrap_i64]; omega
      have HC : Hid (clampI (a - b) = 9223372036854775807) := by show _ = _; unfold clampI; rw [if_pos (by omega)]
      have c0 : a - b - 18446744073709551616 < 0 := by omega
      clear hm
      go_enter Tryz.func75, Tryz.ntmps75
      go_wp2_with fail
      go_ret
      exact ⟨by rw [HC.out]; rfl, rfl⟩
    · have a0 : a < 0 := by omega
      have b0 : 0 < b := by omega
      have w3 : IntKind.i64.wrap (a - b) = a - b + 18446744073709551616 := by rw [IntKind.wrap_i64]; omega
      have HC : Hid (clampI (a - b) = -9223372036854775808) := by show _ = _; unfold clampI; rw [if_neg (by omega), if_pos (by omega)]
      have c0 : 0 ≤ a - b + 18446744073709551616 := by omega
      clear hm
      go_enter Tryz.func75, Tryz.ntmps75
      go_wp2_with fail
      go_ret
      exact ⟨by rw [HC.out]; rfl, rfl⟩
end Go.Proofs.YtfkdailfcmnjlaaGreatDoor

namespace Go.Proofs.YtfkdailfcmnjlaaGreatDoor
open Go Go.RowKit
set_option maxRecDepth 100000

/-- What a part tells hangs on the tree alone. -/
def nTell (xs : List Itm) (vals fl : List Int) (t : Tok) (l : List Int) : Int := overI t.text (wordI xs vals fl t) l
theorem fair_tell (xs : List Itm) (vals fl : List Int) : Fair (nTell xs vals fl) := fun t s l h h0 => by
  obtain ⟨h1, h2⟩ := h
  unfold nTell tokS wordI
  by_cases h : s.k = 110
  · rw [if_pos h] at h2
    rw [h0 (by omega)]
    simp only [overI]
    rw [if_pos (by omega), if_pos h, h2]
  · rw [if_neg h] at h2; rw [h1, h2]
theorem tell_fo (xs : List Itm) (vals fl : List Int) (f : Nat) (L : List Pt) : ∀ i, tellF xs vals fl L f i = foL (nTell xs vals fl) 0 f L i := by
  induction f with
  | zero => intro i; rfl
  | succ f ih => intro i; rw [tellF, foL, nTell, List.map_congr_left fun j _ => ih j]
def tellS (xs : List Itm) (vals fl : List Int) (d : Nat) (s : Sy) : Int := foS (nTell xs vals fl) 0 d s
theorem nTell_names {xs ys : List Itm} (h : xs.map Itm.name = ys.map Itm.name) (vals fl : List Int) : nTell xs vals fl = nTell ys vals fl := by
  funext t l
  unfold nTell wordI
  rw [letIx_names h]
/-- What a policy says. -/
def meanS (xs : List Itm) (fl : List Int) (d : Nat) : List SyI → List Int → Nat → Option (Bool × Nat)
  | [], _, _ => none
  | s :: r, vals, n =>
    if s.name = [] then (if tellS xs vals fl d s.sy = 1 then some (s.allow, n + 1) else meanS xs fl d r (vals ++ [tellS xs vals fl d s.sy]) (n + 1))
    else meanS xs fl d r (vals ++ [tellS xs vals fl d s.sy]) n
theorem mean_same {d : Nat} {L : List Pt} {ys zs : List Itm} {fl : List Int} (hz : ys.map Itm.name = zs.map Itm.name) {xs : List Itm} : ∀ {pol : List SyI} {fr fr' : Nat} (vals : List Int) (n : Nat), TreesAt L xs fr' → PolIs d L xs pol fr → meanL ys fl L xs vals n = meanS zs fl d pol vals n := by
  induction xs with
  | nil => intro pol fr fr' vals n _ h; cases pol with
    | nil => rfl
    | cons => exact h.elim
  | cons x xs ih => intro pol fr fr' vals n hT h; cases pol with
    | nil => exact h.elim
    | cons s pol =>
      obtain ⟨h1, h2, h3, h4, h5, h6⟩ := h
      have ht : tellF ys vals fl L (x.top + 1) x.top = tellS zs vals fl d s.sy := by
        rw [tell_fo, fo_same (fair_tell _ _ _) _ hT.1.fit h3, nTell_names hz]; rfl
      rw [meanL, meanS, ht, h1, h2, ih _ _ hT.2.2 h6, ih _ _ hT.2.2 h6]
/-- What a text that has a policy's words says. -/
theorem mean_pol {d : Nat} {l : List UInt8} {pol : List (SyI × List (Nat × List UInt8))} (fl : List Int) (hl : l.length ≤ 1000) (hx : LX l (polW pol)) (hp : ∀ p ∈ pol, RdS d 6 p.2 p.1.sy ∧ (p.1.name ≠ [] → p.1.allow = false)) (ok : OkS d (pol.map Prod.fst)) :
    meanOf l fl = (meanS ((pol.map Prod.fst).map itmOf) fl d (pol.map Prod.fst) [] 0).getD (false, 0) := by
  obtain ⟨h1, h2, h3⟩ := read_pol hl hx hp
  have h4 := h3 ok
  unfold meanOf
  rw [if_pos (by rw [h4]), mean_same h2.names [] 0 h1 h2]

/-- A condition that was made: as it is printed, with other brackets; what it tells; how deep it is. -/
structure Mk where
  text : List UInt8
  bare : List UInt8
  told : Int
  deep : Nat
/-- What is known of the tree that was meant, at every bound from its depth on. -/
structure MkS (fl : List Int) (ty : UInt8) (m : Mk) (s : Sy) (wb : List (Nat × List UInt8)) (d : Nat) : Prop where
  sh : ShS d s
  plain : plainS d s = m.text
  few : 3 * cS d s ≤ m.text.length + 2
  dep : dS d s ≤ m.deep
  own : ownS (fun _ => false) d s = true
  ty : ∀ xs its, tyS xs its d s = ty
  tell : ∀ xs vals, tellS xs vals fl d s = m.told
  rd : RdS d 6 wb s
structure MkOK (fl : List Int) (ty : UInt8) (m : Mk) : Prop where
  is : ∃ s wb, (∀ d, m.deep ≤ d → MkS fl ty m s wb d) ∧ ∀ rest ws, LX rest ws → Off rest → LX (m.bare ++ rest) (wb ++ ws)
  one : 1 ≤ m.deep
  deep : m.deep ≤ 12
  text : m.text.length ≤ 140
  bare : m.bare.length ≤ 140
  told : Has ty m.told
/-- The types of words. -/
def mTy (x : List UInt8) : UInt8 := if 0 ≤ idx kFields x then ([110, 110, 110, 110, 109, 109, 109, 116, 116] : List UInt8).getD (idx kFields x).toNat 0 else if 0 ≤ idx kMembers x then 109 else 116
theorem leafW_ty : ∀ x ∈ leafWs, ∀ (xs : List Itm) (its : List UInt8), nTy xs its ⟨107, x, 0⟩ [] = mTy x := by
  intro x hx xs its
  unfold nTy tyCase
  rw [if_neg (by simp), if_neg (by simp), if_neg (by simp)]
  have : ∀ x ∈ leafWs, UInt8.ofNat (if 0 ≤ idx kFields x then (([110, 110, 110, 110, 109, 109, 109, 116, 116] : List UInt8).getD (idx kFields x).toNat 0).toNat else if 0 ≤ idx kMembers x then 109 else if x = wTrue ∨ x = wFalse then 116 else tySign x []) = mTy x := by decide
  exact this x hx
/-- A word that stands alone and is no number. -/
theorem mk_word {fl : List Int} {x : List UInt8} (hx : x ∈ leafWs) {v : Int} (hv : (if 0 ≤ idx kFields x then fl.getD (idx kFields x).toNat 0 else if 0 ≤ idx kMembers x then idx kMembers x else truthI (x == wTrue)) = v) (hh : Has (mTy x) v) : MkOK fl (mTy x) ⟨x, x, v, 1⟩ := by
  obtain ⟨g1, g2, g3, g4⟩ := leaf_word x hx
  have hlen : x.length ≤ 10 := (by decide : ∀ y ∈ leafWs, y.length ≤ 10) x hx
  refine ⟨⟨⟨107, x, []⟩, [(107, x)], fun d hd => ?_, fun rest ws h ho => h.letters ho g1 g2 (.inl ⟨g3, rfl⟩)⟩, Nat.le_refl _, by show 1 ≤ 12; omega, by show x.length ≤ 140; omega, by show x.length ≤ 140; omega, hh⟩
  obtain ⟨d, rfl⟩ : ∃ e, d = e + 1 := ⟨d - 1, by simp at hd; omega⟩
  have hl : 0 < x.length := List.length_pos_iff.2 g1
  refine ⟨⟨.inl ⟨rfl, .inr (.inr ⟨rfl, hx⟩)⟩, by simp⟩, ?_, ?_, ?_, ?_, ?_, ?_, ?_⟩
  · rw [plainS]; simp only []; rw [if_neg (by decide)]; rfl
  · simp [cS]; omega
  · show foS nDep 1 (d + 1) ⟨107, x, []⟩ ≤ 1
    rw [foS]; simp [nDep]
  · show foS (nOwn _) true (d + 1) ⟨107, x, []⟩ = true
    rw [foS]; simp [nOwn, tokS]
  · intro xs its
    show foS (nTy xs its) 0 (d + 1) ⟨107, x, []⟩ = mTy x
    rw [foS]; exact leafW_ty x hx xs its
  · intro xs vals
    show foS (nTell xs vals fl) 0 (d + 1) ⟨107, x, []⟩ = v
    rw [foS]
    show wordI xs vals fl ⟨107, x, 0⟩ = v
    unfold wordI
    rw [if_neg (by simp), if_neg (by simp)]; exact hv
  · exact (RdS.one (w := (107, x)) g4 rfl ⟨rfl, by rw [if_neg (by show ¬ 107 = 110; decide)]⟩).out (hd_one (w := (107, x)) g4) (Nat.le_refl 6)
theorem dec_zero (l : List UInt8) : decVal (48 :: l) = decVal l := by unfold decVal; rw [List.foldl_cons]; rfl
/-- A number. -/
theorem mk_num {fl : List Int} {k : Nat} (hk : k ≤ 9223372036854775807) : MkOK fl 110 ⟨tensL k, 48 :: tensL k, k, 1⟩ := by
  obtain ⟨t1, t2, t3⟩ := tensL_ok hk
  have hlen : (tensL k).length ≤ 20 := tensF_len 20 k
  have hl : 0 < (tensL k).length := List.length_pos_iff.2 t3
  have hz : decVal (48 :: tensL k) = k := by rw [dec_zero, t2]
  refine ⟨⟨⟨110, tensL k, []⟩, [(110, 48 :: tensL k)], fun d hd => ?_, fun rest ws h ho => ?_⟩, Nat.le_refl _, by show 1 ≤ 12; omega, by show (tensL k).length ≤ 140; omega, by show (48 :: tensL k).length ≤ 140; simp; omega, ⟨by show In64 (k : Int); unfold In64; omega, fun e => by cases e⟩⟩
  · obtain ⟨d, rfl⟩ : ∃ e, d = e + 1 := ⟨d - 1, by simp at hd; omega⟩
    refine ⟨⟨.inl ⟨rfl, .inl ⟨rfl, by show decVal (tensL k) ≤ _; omega⟩⟩, by simp⟩, ?_, ?_, ?_, ?_, ?_, ?_, ?_⟩
    · rw [plainS]; show (if 110 = 110 then tensL (decVal (tensL k)) else _) = _; rw [if_pos rfl, t2]
    · simp [cS]; omega
    · show foS nDep 1 (d + 1) ⟨110, tensL k, []⟩ ≤ 1
      rw [foS]; simp [nDep]
    · show foS (nOwn _) true (d + 1) ⟨110, tensL k, []⟩ = true
      rw [foS]; simp [nOwn, tokS]
    · intro xs its
      show foS (nTy xs its) 0 (d + 1) ⟨110, tensL k, []⟩ = 110
      rw [foS]; rfl
    · intro xs vals
      show foS (nTell xs vals fl) 0 (d + 1) ⟨110, tensL k, []⟩ = (k : Int)
      rw [foS]
      show wordI xs vals fl ⟨110, tensL k, 0⟩ = (k : Int)
      unfold wordI
      rw [if_pos rfl, t2]
    · have ha : alone ⟨110, 48 :: tensL k, 0⟩ = true := rfl
      exact (RdS.one (w := (110, 48 :: tensL k)) ha rfl ⟨rfl, by rw [if_pos rfl]; rw [hz]; exact t2.symm⟩).out (hd_one (w := (110, 48 :: tensL k)) ha) (Nat.le_refl 6)
  · exact h.digits ho (by simp) (fun c hc => by
      rcases List.mem_cons.1 hc with rfl | hc
      · decide
      · exact t1 c hc) (by rw [hz]; exact hk)
/-- The sign between two, what it makes of types. -/
def sTy (x : List UInt8) : UInt8 := if x = [43] ∨ x = [45] then 110 else 116
/-- Two conditions with a sign. -/
theorem mk_both {fl : List Int} {ta tb : UInt8} {a b : Mk} {w : Nat × List UInt8} (ha : MkOK fl ta a) (hb : MkOK fl tb b) (hw : w ∈ twoWs) (hty : ∀ xs its, nTy xs its ⟨w.1, w.2, 0⟩ [ta, tb] = sTy w.2)
    (hd : max a.deep b.deep + 1 ≤ 12) (ht : a.text.length + w.2.length + b.text.length + 4 ≤ 140) (hbr : a.bare.length + w.2.length + b.bare.length + 4 ≤ 140) (hh : Has (sTy w.2) (twoI w.2 a.told b.told)) :
    MkOK fl (sTy w.2) ⟨[40] ++ a.text ++ [32] ++ w.2 ++ [32] ++ b.text ++ [41], [40] ++ a.bare ++ [41] ++ w.2 ++ [40] ++ b.bare ++ [41], twoI w.2 a.told b.told, max a.deep b.deep + 1⟩ := by
  obtain ⟨sa, wa, ea, la⟩ := ha.is
  obtain ⟨sb, wb, eb, lb⟩ := hb.is
  have hw1 : 1 ≤ w.2.length ∧ w.1 ≠ 110 ∧ w.1 ≠ 111 := by
    simp only [twoWs, List.mem_cons, List.not_mem_nil, or_false] at hw
    rcases hw with rfl | rfl | rfl | rfl | rfl | rfl | rfl <;> decide
  refine ⟨⟨⟨w.1, w.2, [sa, sb]⟩, ((115, [40]) :: (wa ++ [(115, [41])])) ++ w :: ((115, [40]) :: (wb ++ [(115, [41])])), fun d hd' => ?_, fun rest ws h ho => ?_⟩, by show 1 ≤ _ + 1; omega, hd, by simp; omega, by simp; omega, hh⟩
  · simp only [] at hd'
    obtain ⟨d, rfl⟩ : ∃ e, d = e + 1 := ⟨d - 1, by omega⟩
    have A := ea d (by omega)
    have B := eb d (by omega)
    refine ⟨⟨.inr (.inr (.inr ⟨hw, rfl⟩)), by simp; exact ⟨A.sh, B.sh⟩⟩, ?_, ?_, ?_, ?_, ?_, ?_, ?_⟩
    · rw [plainS]; simp only []; rw [if_neg hw1.2.1]; show overL w.2 [plainS d sa, plainS d sb] = _; rw [A.plain, B.plain]; rfl
    · have := A.few; have := B.few
      simp [cS]; omega
    · show foS nDep 1 (d + 1) ⟨w.1, w.2, [sa, sb]⟩ ≤ _
      have := A.dep; have := B.dep
      unfold dS at *
      rw [foS]; simp [nDep]; omega
    · show foS (nOwn _) true (d + 1) ⟨w.1, w.2, [sa, sb]⟩ = true
      have h1 := A.own; have h2 := B.own
      unfold ownS at *
      rw [foS]; simp [nOwn, tokS, hw1.2.2, h1, h2]
    · intro xs its
      show foS (nTy xs its) 0 (d + 1) ⟨w.1, w.2, [sa, sb]⟩ = _
      have h1 := A.ty xs its; have h2 := B.ty xs its
      unfold tyS at *
      rw [foS]; show nTy xs its ⟨w.1, w.2, 0⟩ [foS (nTy xs its) 0 d sa, foS (nTy xs its) 0 d sb] = _
      rw [h1, h2]; exact hty xs its
    · intro xs vals
      show foS (nTell xs vals fl) 0 (d + 1) ⟨w.1, w.2, [sa, sb]⟩ = _
      have h1 := A.tell xs vals; have h2 := B.tell xs vals
      unfold tellS at *
      rw [foS]; show overI w.2 _ [foS (nTell xs vals fl) 0 d sa, foS (nTell xs vals fl) 0 d sb] = _
      rw [h1, h2]; rfl
    · exact RdS.both hw A.rd.brackets (hd_brackets _) B.rd.brackets (hd_brackets _)
  · have h1 := (lb _ _ h.shut (off_shut _)).opn
    have h2 := over_two hw h1 (off_cons (by decide) _) (fun c r e => by simp at e; rw [← e.1]; decide)
    have h3 := (la _ _ h2.shut (off_shut _)).opn
    simpa using h3
theorem mk_not {fl : List Int} {a : Mk} (ha : MkOK fl 116 a) (hd : a.deep + 1 ≤ 12) (ht : a.text.length + 6 ≤ 140) (hbr : a.bare.length + 5 ≤ 140) :
    MkOK fl 116 ⟨wsNot ++ a.text ++ [41], [110, 111, 116, 40] ++ a.bare ++ [41], 1 - a.told, a.deep + 1⟩ := by
  obtain ⟨sa, wa, ea, la⟩ := ha.is
  have hv : Has 116 (1 - a.told) := by
    obtain ⟨h1, h2⟩ := ha.told
    have := h2 rfl
    unfold Has In64
    omega
  refine ⟨⟨⟨107, wNot, [sa]⟩, (107, wNot) :: ((115, [40]) :: (wa ++ [(115, [41])])), fun d hd' => ?_, fun rest ws h ho => ?_⟩, by show 1 ≤ _ + 1; omega, hd, by simp [wsNot]; omega, by simp; omega, hv⟩
  · simp only [] at hd'
    obtain ⟨d, rfl⟩ : ∃ e, d = e + 1 := ⟨d - 1, by omega⟩
    have A := ea d (by omega)
    refine ⟨⟨.inr (.inl ⟨rfl, rfl, rfl⟩), by simp; exact A.sh⟩, ?_, ?_, ?_, ?_, ?_, ?_, ?_⟩
    · rw [plainS]; simp only []; rw [if_neg (by decide)]; show overL wNot [plainS d sa] = _; rw [A.plain]; rfl
    · have := A.few
      simp [cS, wsNot]; omega
    · show foS nDep 1 (d + 1) ⟨107, wNot, [sa]⟩ ≤ _
      have := A.dep
      unfold dS at *
      rw [foS]; simp [nDep]; omega
    · show foS (nOwn _) true (d + 1) ⟨107, wNot, [sa]⟩ = true
      have h1 := A.own
      unfold ownS at *
      rw [foS]; simp [nOwn, tokS, h1]
    · intro xs its
      show foS (nTy xs its) 0 (d + 1) ⟨107, wNot, [sa]⟩ = _
      have h1 := A.ty xs its
      unfold tyS at *
      rw [foS]; show nTy xs its ⟨107, wNot, 0⟩ [foS (nTy xs its) 0 d sa] = _
      rw [h1]; rfl
    · intro xs vals
      show foS (nTell xs vals fl) 0 (d + 1) ⟨107, wNot, [sa]⟩ = _
      have h1 := A.tell xs vals
      unfold tellS at *
      rw [foS]; show overI wNot _ [foS (nTell xs vals fl) 0 d sa] = _
      rw [h1]; rfl
    · exact A.rd.brackets.nots (hd_brackets _)
  · have h1 := ((la _ _ h.shut (off_shut _)).opn).kw (off_cons (by decide) _) wNot (by decide)
    simpa [wNot] using h1
theorem mk_if {fl : List Int} {x a b : Mk} (hx : MkOK fl 116 x) (ha : MkOK fl 110 a) (hb : MkOK fl 110 b) (hd : max (max x.deep a.deep) b.deep + 1 ≤ 12) (ht : x.text.length + a.text.length + b.text.length + 17 ≤ 140) (hbr : x.bare.length + a.bare.length + b.bare.length + 16 ≤ 140) :
    MkOK fl 110 ⟨wsIf ++ x.text ++ wsThen ++ a.text ++ wsElse ++ b.text ++ [41], [105, 102, 40] ++ x.bare ++ [41, 116, 104, 101, 110, 40] ++ a.bare ++ [41, 101, 108, 115, 101, 40] ++ b.bare ++ [41], if x.told = 1 then a.told else b.told, max (max x.deep a.deep) b.deep + 1⟩ := by
  obtain ⟨sx, wx, ex, lx'⟩ := hx.is
  obtain ⟨sa, wa, ea, la⟩ := ha.is
  obtain ⟨sb, wb, eb, lb⟩ := hb.is
  have hv : Has 110 (if x.told = 1 then a.told else b.told) := by split; exact ha.told; exact hb.told
  refine ⟨⟨⟨107, wIf, [sx, sa, sb]⟩, (107, wIf) :: (((115, [40]) :: (wx ++ [(115, [41])])) ++ (107, wThen) :: (((115, [40]) :: (wa ++ [(115, [41])])) ++ (107, wElse) :: ((115, [40]) :: (wb ++ [(115, [41])])))), fun d hd' => ?_, fun rest ws h ho => ?_⟩, by show 1 ≤ _ + 1; omega, hd, by simp [wsIf, wsThen, wsElse]; omega, by simp; omega, hv⟩
  · simp only [] at hd'
    obtain ⟨d, rfl⟩ : ∃ e, d = e + 1 := ⟨d - 1, by omega⟩
    have X := ex d (by omega)
    have A := ea d (by omega)
    have B := eb d (by omega)
    refine ⟨⟨.inr (.inr (.inl ⟨rfl, rfl, rfl⟩)), by simp; exact ⟨X.sh, A.sh, B.sh⟩⟩, ?_, ?_, ?_, ?_, ?_, ?_, ?_⟩
    · rw [plainS]; simp only []; rw [if_neg (by decide)]; show overL wIf [plainS d sx, plainS d sa, plainS d sb] = _; rw [X.plain, A.plain, B.plain]; rfl
    · have := X.few; have := A.few; have := B.few
      simp [cS, wsIf, wsThen, wsElse]; omega
    · show foS nDep 1 (d + 1) ⟨107, wIf, [sx, sa, sb]⟩ ≤ _
      have := X.dep; have := A.dep; have := B.dep
      unfold dS at *
      rw [foS]; simp [nDep]; omega
    · show foS (nOwn _) true (d + 1) ⟨107, wIf, [sx, sa, sb]⟩ = true
      have h0 := X.own; have h1 := A.own; have h2 := B.own
      unfold ownS at *
      rw [foS]; simp [nOwn, tokS, h0, h1, h2]
    · intro xs its
      show foS (nTy xs its) 0 (d + 1) ⟨107, wIf, [sx, sa, sb]⟩ = _
      have h0 := X.ty xs its; have h1 := A.ty xs its; have h2 := B.ty xs its
      unfold tyS at *
      rw [foS]; show nTy xs its ⟨107, wIf, 0⟩ [foS (nTy xs its) 0 d sx, foS (nTy xs its) 0 d sa, foS (nTy xs its) 0 d sb] = _
      rw [h0, h1, h2]; rfl
    · intro xs vals
      show foS (nTell xs vals fl) 0 (d + 1) ⟨107, wIf, [sx, sa, sb]⟩ = _
      have h0 := X.tell xs vals; have h1 := A.tell xs vals; have h2 := B.tell xs vals
      unfold tellS at *
      rw [foS]; show overI wIf _ [foS (nTell xs vals fl) 0 d sx, foS (nTell xs vals fl) 0 d sa, foS (nTell xs vals fl) 0 d sb] = _
      rw [h0, h1, h2]; rfl
    · exact RdS.if_ (X.rd.brackets.out (hd_brackets _) (Nat.le_refl 6)) (A.rd.brackets.out (hd_brackets _) (Nat.le_refl 6)) (B.rd.brackets.out (hd_brackets _) (Nat.le_refl 6))
  · have h1 := ((lb _ _ h.shut (off_shut _)).opn).kw (off_cons (by decide) _) wElse (by decide)
    have h2 := ((la _ _ h1.shut (off_shut _)).opn).kw (off_cons (by decide) _) wThen (by decide)
    have h3 := ((lx' _ _ h2.shut (off_shut _)).opn).kw (off_cons (by decide) _) wIf (by decide)
    simpa [wIf, wThen, wElse] using h3
end Go.Proofs.YtfkdailfcmnjlaaGreatDoor

namespace Go.Proofs.YtfkdailfcmnjlaaGreatDoor
open Go Go.RowKit
set_option maxRecDepth 100000

def wFirst : List UInt8 := [102, 105, 114, 115, 116]
def headA (al : Bool) : List UInt8 := if al then wsAllow else wsDeny
/-- The rules behind the first. -/
def textR (q : List (Mk × Bool)) : List UInt8 := q.flatMap fun r => headA r.2 ++ r.1.text ++ [59, 10]
def bareR (q : List (Mk × Bool)) : List UInt8 := q.flatMap fun r => headA r.2 ++ [10] ++ r.1.bare ++ [32, 59]
/-- What is written. -/
def textW : List (Mk × Bool) → List UInt8
  | [] => []
  | r :: q => wsLet ++ wFirst ++ wsEq ++ r.1.text ++ [59, 10] ++ (headA r.2 ++ wFirst ++ [59, 10]) ++ textR q
def bareW : List (Mk × Bool) → List UInt8
  | [] => []
  | r :: q => wsLet ++ wFirst ++ [61] ++ r.1.bare ++ [59] ++ (headA r.2 ++ [40] ++ wFirst ++ [41, 59]) ++ bareR q
/-- What it says: the first rule that is true. -/
def saysW : List (Mk × Bool) → Nat → Bool × Nat
  | [], _ => (false, 0)
  | r :: q, n => if r.1.told = 1 then (r.2, n + 1) else saysW q (n + 1)
/-- The trees behind. -/
structure RlS (fl : List Int) (m : Mk) (s : Sy) (wb : List (Nat × List UInt8)) : Prop where
  ms : MkS fl 116 m s wb 12
  lx : ∀ rest ws, LX rest ws → Off rest → LX (m.bare ++ rest) (wb ++ ws)
theorem MkOK.rl {fl : List Int} {m : Mk} (h : MkOK fl 116 m) : ∃ s wb, RlS fl m s wb := by
  obtain ⟨s, wb, h1, h2⟩ := h.is
  exact ⟨s, wb, h1 12 h.deep, h2⟩
def firstSy : Sy := ⟨111, wFirst, []⟩
def Good3 (fl : List Int) (q : List (Mk × Bool)) : Prop := ∀ r ∈ q, MkOK fl 116 r.1
theorem own_any {d : Nat} : ∀ {s : Sy} (g : List UInt8 → Bool), ownS (fun _ => false) d s = true → ownS g d s = true := by
  induction d with
  | zero => intro s g _; rfl
  | succ d ih =>
    intro s g h
    unfold ownS at *
    rw [foS, nOwn] at *
    split at h
    · cases h
    · rename_i hk
      rw [if_neg hk]
      rw [List.all_eq_true] at h ⊢
      intro b hb
      obtain ⟨c, hc, rfl⟩ := List.mem_map.1 hb
      exact ih g (h _ (List.mem_map_of_mem hc))
theorem first_rd : RdS 12 5 [(111, wFirst)] firstSy ∧ Hd [(111, wFirst)] :=
  ⟨RdS.one (d := 11) (w := (111, wFirst)) rfl rfl ⟨rfl, by rw [if_neg (by show ¬ 111 = 110; decide)]; rfl⟩, hd_one (w := (111, wFirst)) rfl⟩
/-- The words of the rules behind the first, with other brackets. -/
def polR (q : List ((Mk × Bool) × Sy × List (Nat × List UInt8))) : List (SyI × List (Nat × List UInt8)) := q.map fun r => (⟨[], r.1.2, r.2.1⟩, r.2.2)
theorem head_lex {al : Bool} {s : List UInt8} {ws : List (Nat × List UInt8)} (h : LX s ws) (hs : isD (s.getD 0 32) = false ∧ isL (s.getD 0 32) = false) : LX (headA al ++ s) ((107, if al then wAllow else wDeny) :: (107, wIf) :: ws) := by
  have h2 := (h.sp.kw (off_blank _) wIf (by decide)).sp
  unfold headA
  cases al with
  | true => exact h2.kw (off_blank _) wAllow (by decide)
  | false => exact h2.kw (off_blank _) wDeny (by decide)
theorem bareR_lex (fl : List Int) (q : List ((Mk × Bool) × Sy × List (Nat × List UInt8))) : (∀ r ∈ q, RlS fl r.1.1 r.2.1 r.2.2) → LX (bareR (q.map Prod.fst)) (polW (polR q)) := by
  induction q with
  | nil => intro _; exact LX.nil
  | cons r q ih =>
    intro h
    have hr := ih fun r hr => h r (by simp [hr])
    have h1 := (h r (by simp)).lx _ _ (LX.sp (LX.semi hr)) (off_blank _)
    have h2 := head_lex (al := r.1.2) h1.nl ⟨rfl, rfl⟩
    have e : bareR ((r :: q).map Prod.fst) = headA r.1.2 ++ (10 :: (r.1.1.bare ++ (32 :: 59 :: bareR (q.map Prod.fst)))) := by simp [bareR]
    have e2 : polW (polR (r :: q)) = (107, if r.1.2 then wAllow else wDeny) :: (107, wIf) :: (r.2.2 ++ ((115, [59]) :: polW (polR q))) := by simp [polW, polR, itemW, hW]
    rw [e, e2]; exact h2
theorem textR_print (fl : List Int) (q : List ((Mk × Bool) × Sy × List (Nat × List UInt8))) : (∀ r ∈ q, RlS fl r.1.1 r.2.1 r.2.2) → printS 12 ((polR q).map Prod.fst) = textR (q.map Prod.fst) := by
  induction q with
  | nil => intro _; rfl
  | cons r q ih =>
    intro h
    have hr := ih fun r hr => h r (by simp [hr])
    have hp := (h r (by simp)).ms.plain
    unfold printS textR polR at *
    simp only [List.map_cons, List.flatMap_cons]
    rw [hr, hp]
    rfl
/-- All of it. -/
def polA (r : (Mk × Bool) × Sy × List (Nat × List UInt8)) (q : List ((Mk × Bool) × Sy × List (Nat × List UInt8))) : List (SyI × List (Nat × List UInt8)) :=
  (⟨wFirst, false, r.2.1⟩, r.2.2) :: (⟨[], r.1.2, firstSy⟩, (115, [40]) :: ([(111, wFirst)] ++ [(115, [41])])) :: polR q
theorem bareW_lex (fl : List Int) {r : (Mk × Bool) × Sy × List (Nat × List UInt8)} {q : List ((Mk × Bool) × Sy × List (Nat × List UInt8))} (hr : RlS fl r.1.1 r.2.1 r.2.2) (hq : ∀ r ∈ q, RlS fl r.1.1 r.2.1 r.2.2) : LX (bareW ((r :: q).map Prod.fst)) (polW (polA r q)) := by
  have h0 := bareR_lex fl q hq
  have hfk : isKw wFirst = false := by decide
  have h1 := (LX.semi h0).shut.letters (w := wFirst) (off_shut _) (by decide) (by decide) (k := 111) (.inr ⟨hfk, by decide, rfl⟩)
  have h2 := head_lex (al := r.1.2) h1.opn ⟨rfl, rfl⟩
  have h3 := hr.lx _ _ (LX.semi h2) (off_cons (by decide) _)
  have h4 : LX (61 :: _) _ := h3.sign (by decide)
  have h5 := (h4.letters (w := wFirst) (off_cons (by decide) _) (by decide) (by decide) (k := 111) (.inr ⟨hfk, by decide, rfl⟩)).sp.kw (off_blank _) wLet (by decide)
  have e : bareW ((r :: q).map Prod.fst) = wLet ++ (32 :: (wFirst ++ (61 :: (r.1.1.bare ++ (59 :: (headA r.1.2 ++ (40 :: (wFirst ++ (41 :: 59 :: bareR (q.map Prod.fst)))))))))) := by simp [bareW, wsLet, wLet]
  have e2 : polW (polA r q) = (107, wLet) :: (111, wFirst) :: (115, [61]) :: (r.2.2 ++ ((115, [59]) :: (107, if r.1.2 then wAllow else wDeny) :: (107, wIf) :: (115, [40]) :: (111, wFirst) :: (115, [41]) :: (115, [59]) :: polW (polR q))) := by simp [polW, polA, itemW, hW, wFirst]
  rw [e, e2]; exact h5
theorem textW_print (fl : List Int) {r : (Mk × Bool) × Sy × List (Nat × List UInt8)} {q : List ((Mk × Bool) × Sy × List (Nat × List UInt8))} (hr : RlS fl r.1.1 r.2.1 r.2.2) (hq : ∀ r ∈ q, RlS fl r.1.1 r.2.1 r.2.2) : printS 12 ((polA r q).map Prod.fst) = textW ((r :: q).map Prod.fst) := by
  have h := textR_print fl q hq
  have hp := hr.ms.plain
  unfold printS polA at *
  simp only [List.map_cons, List.flatMap_cons]
  rw [h, hp]
  have e1 : headS ⟨wFirst, false, r.2.1⟩ = wsLet ++ wFirst ++ wsEq := rfl
  have e2 : headS ⟨[], r.1.2, firstSy⟩ = headA r.1.2 := rfl
  have e3 : plainS 12 firstSy = wFirst := rfl
  rw [e1, e2, e3]
  simp [textW]
theorem polA_rd (fl : List Int) {r : (Mk × Bool) × Sy × List (Nat × List UInt8)} {q : List ((Mk × Bool) × Sy × List (Nat × List UInt8))} (hr : RlS fl r.1.1 r.2.1 r.2.2) (hq : ∀ r ∈ q, RlS fl r.1.1 r.2.1 r.2.2) : ∀ p ∈ polA r q, RdS 12 6 p.2 p.1.sy ∧ (p.1.name ≠ [] → p.1.allow = false) := by
  intro p hp
  rcases List.mem_cons.1 hp with rfl | hp
  · exact ⟨hr.ms.rd, fun _ => rfl⟩
  rcases List.mem_cons.1 hp with rfl | hp
  · exact ⟨((first_rd.1.out first_rd.2 (Nat.le_refl 6)).brackets).out (hd_brackets _) (Nat.le_refl 6), fun h => absurd rfl h⟩
  · obtain ⟨x, hx, rfl⟩ := List.mem_map.1 hp
    exact ⟨(hq x hx).ms.rd, fun h => absurd rfl h⟩
theorem polA_sh (fl : List Int) {r : (Mk × Bool) × Sy × List (Nat × List UInt8)} {q : List ((Mk × Bool) × Sy × List (Nat × List UInt8))} (hr : RlS fl r.1.1 r.2.1 r.2.2) (hq : ∀ r ∈ q, RlS fl r.1.1 r.2.1 r.2.2) : ∀ s ∈ (polA r q).map Prod.fst, ShS 12 s.sy ∧ NameOK s := by
  have hfs : ShS 12 firstSy := ⟨.inl ⟨rfl, .inr (.inl ⟨rfl, by decide, by decide, by decide, by decide⟩)⟩, by intro c hc; cases hc⟩
  intro s hs
  obtain ⟨p, hp, rfl⟩ := List.mem_map.1 hs
  rcases List.mem_cons.1 hp with rfl | hp
  · exact ⟨hr.ms.sh, .inr ⟨(by decide : ∀ c ∈ wFirst, isL c = true), (by decide : isKw wFirst = false), (by decide : wFirst.length ≤ 8), rfl⟩⟩
  rcases List.mem_cons.1 hp with rfl | hp
  · exact ⟨hfs, .inl rfl⟩
  · obtain ⟨x, hx, rfl⟩ := List.mem_map.1 hp
    exact ⟨(hq x hx).ms.sh, .inl rfl⟩
/-- What is asked of a rule. -/
structure RS1 (fl : List Int) (m : Mk) (s : Sy) : Prop where
  cnt : cS 12 s ≤ 47
  dep : dS 12 s ≤ 12
  own : ∀ g, ownS g 12 s = true
  ty : ∀ xs its, tyS xs its 12 s = 116
  tell : ∀ xs vals, tellS xs vals fl 12 s = m.told
theorem RlS.one {fl : List Int} {m : Mk} {s : Sy} {wb : List (Nat × List UInt8)} (h : RlS fl m s wb) (hm : MkOK fl 116 m) : RS1 fl m s :=
  ⟨by have := h.ms.few; have := hm.text; omega, Nat.le_trans h.ms.dep hm.deep, fun g => own_any g h.ms.own, h.ms.ty, h.ms.tell⟩
theorem first_one : cS 12 firstSy = 1 ∧ dS 12 firstSy = 1 := ⟨rfl, rfl⟩
theorem polA_ok (fl : List Int) {r : (Mk × Bool) × Sy × List (Nat × List UInt8)} {q : List ((Mk × Bool) × Sy × List (Nat × List UInt8))} (hr : RS1 fl r.1.1 r.2.1) (hq : ∀ r ∈ q, RS1 fl r.1.1 r.2.1) (hl : q.length ≤ 2) :
    OkS 12 ((polA r q).map Prod.fst) ∧ (meanS (((polA r q).map Prod.fst).map itmOf) fl 12 ((polA r q).map Prod.fst) [] 0).getD (false, 0) = saysW ((r :: q).map Prod.fst) 0 := by
  obtain ⟨⟨m, al⟩, s, wb⟩ := r
  simp only [] at hr
  have c1 := hr.cnt
  have d1 := hr.dep
  have t1 := hr.ty
  have o1 := hr.own
  have v1 := hr.tell
  have tf : ∀ (xs : List Itm) (its : List UInt8), tyS xs its 12 firstSy = UInt8.ofNat ((its.getD (letIx xs wFirst its.length).toNat 0).toNat) := fun xs its => rfl
  have of : ∀ g, ownS g 12 firstSy = g wFirst := fun g => rfl
  have vf : ∀ (xs : List Itm) (vals : List Int), tellS xs vals fl 12 firstSy = vals.getD (letIx xs wFirst vals.length).toNat 0 := fun xs vals => rfl
  obtain ⟨fc, fd⟩ := first_one
  match q, hq, hl with
  | [], _, _ =>
    refine ⟨⟨?_, ?_, ?_⟩, ?_⟩
    · simp [polA, polR, manyS, fc, fd, wFirst]; omega
    · simp [polA, polR, namesS, o1, of, goodIn, itmOf, letIx, wFirst]
    · simp [polA, polR, typesS, t1, tf, itmOf, letIx, wFirst]
    · simp [polA, polR, meanS, v1, vf, itmOf, letIx, wFirst, saysW]
      split <;> simp
  | [⟨⟨m2, al2⟩, s2, wb2⟩], hq, _ =>
    have h2 := hq ⟨⟨m2, al2⟩, s2, wb2⟩ (by simp)
    simp only [] at h2
    have c2 := h2.cnt
    have d2 := h2.dep
    have t2 := h2.ty
    have o2 := h2.own
    have v2 := h2.tell
    refine ⟨⟨?_, ?_, ?_⟩, ?_⟩
    · simp [polA, polR, manyS, fc, fd, wFirst]; omega
    · simp [polA, polR, namesS, o1, o2, of, goodIn, itmOf, letIx, wFirst]
    · simp [polA, polR, typesS, t1, t2, tf, itmOf, letIx, wFirst]
    · simp [polA, polR, meanS, v1, v2, vf, itmOf, letIx, wFirst, saysW]
      (repeat' split) <;> simp_all
  | [⟨⟨m2, al2⟩, s2, wb2⟩, ⟨⟨m3, al3⟩, s3, wb3⟩], hq, _ =>
    have h2 := hq ⟨⟨m2, al2⟩, s2, wb2⟩ (by simp)
    have h3 := hq ⟨⟨m3, al3⟩, s3, wb3⟩ (by simp)
    simp only [] at h2 h3
    have c2 := h2.cnt
    have d2 := h2.dep
    have t2 := h2.ty
    have o2 := h2.own
    have v2 := h2.tell
    have c3 := h3.cnt
    have d3 := h3.dep
    have t3 := h3.ty
    have o3 := h3.own
    have v3 := h3.tell
    refine ⟨⟨?_, ?_, ?_⟩, ?_⟩
    · simp [polA, polR, manyS, fc, fd, wFirst]; omega
    · simp [polA, polR, namesS, o1, o2, o3, of, goodIn, itmOf, letIx, wFirst]
    · simp [polA, polR, typesS, t1, t2, t3, tf, itmOf, letIx, wFirst]
    · simp [polA, polR, meanS, v1, v2, v3, vf, itmOf, letIx, wFirst, saysW]
      (repeat' split) <;> simp_all
theorem wits {fl : List Int} (q : List (Mk × Bool)) : Good3 fl q → ∃ Q : List ((Mk × Bool) × Sy × List (Nat × List UInt8)), Q.map Prod.fst = q ∧ ∀ r ∈ Q, RlS fl r.1.1 r.2.1 r.2.2 ∧ RS1 fl r.1.1 r.2.1 := by
  induction q with
  | nil => intro _; exact ⟨[], rfl, by simp⟩
  | cons r q ih =>
    intro h
    obtain ⟨Q, h1, h2⟩ := ih fun r hr => h r (by simp [hr])
    have hm := h r (by simp)
    obtain ⟨s, wb, hs⟩ := hm.rl
    refine ⟨(r, s, wb) :: Q, by simp [h1], fun x hx => ?_⟩
    rcases List.mem_cons.1 hx with rfl | hx
    · exact ⟨hs, hs.one hm⟩
    · exact h2 x hx
theorem textR_len {fl : List Int} (q : List (Mk × Bool)) : Good3 fl q → (textR q).length ≤ q.length * 151 ∧ (bareR q).length ≤ q.length * 152 := by
  induction q with
  | nil => intro _; simp [textR, bareR]
  | cons r q ih =>
    intro h
    obtain ⟨h1, h2⟩ := ih fun r hr => h r (by simp [hr])
    have hm := h r (by simp)
    have ht := hm.text
    have hb := hm.bare
    have ha : (headA r.2).length ≤ 9 := by cases r.2 <;> decide
    unfold textR bareR at *
    simp only [List.flatMap_cons, List.length_append, List.length_cons, List.length_nil]
    omega
/-- What is written is a policy, printed as such, that says so. -/
theorem written_ok {fl : List Int} {q : List (Mk × Bool)} (hq : Good3 fl q) (hl : q.length ≤ 3) :
    (readOf (textW q)).1 = (0, 0) ∧ textOf (textW q) = textW q ∧ meanOf (textW q) fl = saysW q 0 ∧ (readOf (bareW q)).1 = (0, 0) ∧ textOf (bareW q) = textW q ∧ meanOf (bareW q) fl = saysW q 0 := by
  cases q with
  | nil =>
    have h : OkS 12 [] := ⟨rfl, rfl, rfl⟩
    have e : textW [] = [] := rfl
    have e2 : bareW [] = [] := rfl
    have := text_pol (d := 12) (l := []) (pol := []) (by simp) LX.nil (by simp) h
    have m := mean_pol (d := 12) (l := []) (pol := []) fl (by simp) LX.nil (by simp) h
    rw [e, e2]
    exact ⟨this.1, this.2, m, this.1, this.2, m⟩
  | cons r q =>
    obtain ⟨Q, e, hQ⟩ := wits _ hq
    cases Q with
    | nil => simp at e
    | cons R Q =>
      simp at e
      obtain ⟨rfl, rfl⟩ := e
      have hR := hQ R (by simp)
      have hQ1 : ∀ r ∈ Q, RlS fl r.1.1 r.2.1 r.2.2 := fun r hr => (hQ r (by simp [hr])).1
      have hQ2 : ∀ r ∈ Q, RS1 fl r.1.1 r.2.1 := fun r hr => (hQ r (by simp [hr])).2
      have hlq : Q.length ≤ 2 := by simp at hl; omega
      obtain ⟨ok, ms⟩ := polA_ok fl hR.2 hQ2 hlq
      have hp := textW_print fl hR.1 hQ1
      have hx := bareW_lex fl hR.1 hQ1
      have hrd := polA_rd fl hR.1 hQ1
      have hsh := polA_sh fl hR.1 hQ1
      obtain ⟨k1, k2⟩ := textR_len (fl := fl) (Q.map Prod.fst) (fun r hr => hq r (by simp only [List.mem_cons]; exact .inr hr))
      have hm := hq R.1 (by simp)
      have ht := hm.text
      have hb := hm.bare
      have ha : (headA R.1.2).length ≤ 9 := by cases R.1.2 <;> decide
      simp only [List.map_cons] at hp hx ms
      simp only [List.length_map] at k1 k2
      have lt : (textW (R.1 :: Q.map Prod.fst)).length ≤ 1000 := by
        simp [textW, wsLet, wFirst, wsEq]; omega
      have lb : (bareW (R.1 :: Q.map Prod.fst)).length ≤ 1000 := by
        simp [bareW, wsLet, wFirst]; omega
      have b1 := text_pol lb hx hrd ok
      have b2 := mean_pol fl lb hx hrd ok
      have t0 := print_lex ((polA R Q).map Prod.fst) hsh
      rw [hp] at t0
      have trd := printed_rd hsh
      have ef := fst_map (pol := (polA R Q).map Prod.fst) (fun s => wordsF 12 s)
      have t1 := text_pol lt t0 trd (by rw [ef]; exact ok)
      have t2 := mean_pol fl lt t0 trd (by rw [ef]; exact ok)
      rw [ef] at t1 t2
      rw [hp] at t1 b1
      rw [ms] at t2 b2
      exact ⟨t1.1, t1.2, t2, b1.1, b1.2, b2⟩
end Go.Proofs.YtfkdailfcmnjlaaGreatDoor

namespace Go.Proofs.YtfkdailfcmnjlaaGreatDoor
open Go Go.RowKit
set_option maxRecDepth 100000
attribute [local go_sem ↓] Go.wp_at_zero Go.wp_at_succ

theorem dig_ex {n : Nat} (h : n < 10) : (ByteArray.mk #[48, 49, 50, 51, 52, 53, 54, 55, 56, 57]).extract n (n + 1) = ByteArray.mk #[UInt8.ofNat (48 + n)] := by
  have : n = 0 ∨ n = 1 ∨ n = 2 ∨ n = 3 ∨ n = 4 ∨ n = 5 ∨ n = 6 ∨ n = 7 ∨ n = 8 ∨ n = 9 := by omega
  rcases this with rfl | rfl | rfl | rfl | rfl | rfl | rfl | rfl | rfl | rfl <;> decide
set_option maxHeartbeats 1000000 in
theorem digits_any (f : Nat) : ∀ (n : Nat) (w : World), n < 10 ^ f → n ≤ 9223372036854775807 → 0 < f → f ≤ 30 → Calls Tryz.prog 70 #[.int .i64 n] w fun e w' => e = .returned (S (tensF f n)) ∧ Below w.heap.size w w' := by
  induction f with
  | zero => intro n w _ _ h; omega
  | succ f ih =>
    intro n w hn hm _ hf
    by_cases h : n < 10
    · have HE : Hid (tensF (f + 1) n = [UInt8.ofNat (48 + n)]) := by show _ = _; rw [tensF, if_pos h]
      generalize tensF (f + 1) n = r at *
      have hx := dig_ex h
      have hb : (0 : Int) ≤ (n : Int) ∧ (n : Int) ≤ (n : Int) + 1 ∧ (n : Int) + 1 ≤ 10 := by omega
      have hi : (n : Int) < 10 := by omega
      clear ih hn
      generalize UInt8.ofNat (48 + n) = d at *
      go_enter Tryz.func70, Tryz.ntmps70
      go_wp2_with fail
      go_ret
      exact ⟨by rw [HE.out]; rfl, by first | exact Below.refl _ _ | exact (Below.refl _ _).drew⟩
    · have HE : Hid (tensF (f + 1) n = tensF f (n / 10) ++ [UInt8.ofNat (48 + n % 10)]) := by show _ = _; rw [tensF, if_neg h]
      generalize tensF (f + 1) n = r at *
      have hf0 : 0 < f := by
        rcases Nat.eq_zero_or_pos f with rfl | h0
        · simp at hn; omega
        · exact h0
      rw [Nat.pow_succ] at hn
      have HI := fun w => ih (n / 10) w (by omega) (by omega) hf0 (by omega)
      have hl := tensF_len f (n / 10)
      have hx := dig_ex (n := n % 10) (by omega)
      have hi : ¬ (n : Int) < 10 := by omega
      have hq : IntKind.i64.wrap ((n / 10 : Nat) : Int) = ((n / 10 : Nat) : Int) := wrap_small (by omega) (by omega)
      have hq2 : (n : Int).tdiv 10 = ((n / 10 : Nat) : Int) := by
        rw [Int.tdiv_eq_ediv_of_nonneg (by omega)]; omega
      have ht : (n : Int).tmod 10 = ((n % 10 : Nat) : Int) := by
        rw [Int.tmod_eq_emod_of_nonneg (by omega)]; omega
      have hm9 : n % 10 < 10 := by omega
      generalize UInt8.ofNat (48 + n % 10) = d at *
      generalize n % 10 = m at *
      generalize tensF f (n / 10) = t at *
      generalize n / 10 = q at *
      clear ih hn
      have hb2 : (0 : Int) ≤ (m : Int) ∧ (m : Int) ≤ (m : Int) + 1 ∧ (m : Int) + 1 ≤ 10 := by omega
      have hs1 : ¬ 9223372036854775807 < t.length + 1 := by omega
      have hmw : IntKind.i64.wrap (m : Int) = (m : Int) := wrap_small (by omega) (by omega)
      have hmw1 : IntKind.i64.wrap ((m : Int) + 1) = (m : Int) + 1 := wrap_small (by omega) (by omega)
      have hmi : (0 : Int) ≤ (m : Int) := by omega
      have hmj : (m : Int) ≤ (m : Int) + 1 := by omega
      have hmk : (m : Int) + 1 ≤ 10 := by omega
      have hml : m + 1 ≤ 10 := by omega
      go_enter Tryz.func70, Tryz.ntmps70
      go_wp2_with fail
      go_region_with ((go_at_call 70; refine (HI _).mono ?_; rintro e w1 ⟨rfl, hb⟩))
      all_goals go_wp2_with fail
      all_goals go_ret
      all_goals refine ⟨by rw [HE.out]; exact congrArg (fun s => Ending.returned (Value.string s)) (rba_cat t [d]), ?_⟩
      all_goals first
        | exact hb
        | exact hb.drew
        | exact (Below.refl _ _).drew.trans hb
end Go.Proofs.YtfkdailfcmnjlaaGreatDoor

namespace Go.Proofs.YtfkdailfcmnjlaaGreatDoor
open Go Go.RowKit
set_option maxRecDepth 100000

theorem textW_snoc {q : List (Mk × Bool)} (h : q ≠ []) (r : Mk × Bool) : textW (q ++ [r]) = textW q ++ (headA r.2 ++ r.1.text ++ [59, 10]) := by
  cases q with
  | nil => exact absurd rfl h
  | cons x q => simp [textW, textR]
theorem bareW_snoc {q : List (Mk × Bool)} (h : q ≠ []) (r : Mk × Bool) : bareW (q ++ [r]) = bareW q ++ (headA r.2 ++ [10] ++ r.1.bare ++ [32, 59]) := by
  cases q with
  | nil => exact absurd rfl h
  | cons x q => simp [bareW, bareR]
theorem saysW_snoc (q : List (Mk × Bool)) (r : Mk × Bool) : ∀ n, saysW (q ++ [r]) n = if (saysW q n).2 = 0 then (if r.1.told = 1 then (r.2, n + q.length + 1) else (false, 0)) else saysW q n := by
  induction q with
  | nil => intro n; simp [saysW]
  | cons x q ih =>
    intro n
    rw [List.cons_append, saysW, saysW]
    by_cases h : x.1.told = 1
    · rw [if_pos h, if_pos h, if_neg (by simp)]
    · rw [if_neg h, if_neg h, ih (n + 1)]
      simp only [List.length_cons]
      rw [show n + 1 + q.length + 1 = n + (q.length + 1) + 1 from by omega]
theorem Good3.snoc {fl : List Int} {q : List (Mk × Bool)} (h : Good3 fl q) {r : Mk × Bool} (hr : MkOK fl 116 r.1) : Good3 fl (q ++ [r]) := fun x hx => by
  rcases List.mem_append.1 hx with hx | hx
  · exact h x hx
  · simp at hx; subst hx; exact hr
end Go.Proofs.YtfkdailfcmnjlaaGreatDoor
