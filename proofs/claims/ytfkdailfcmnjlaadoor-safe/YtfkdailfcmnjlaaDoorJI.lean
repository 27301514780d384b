/-
  The program's reading of bytes: may an instruction be one? The program finds the instruction that begins at a byte. The program finds where jumps come to.
-/
import Derived.Test.YtfkdailfcmnjlaaDoorJA
import Derived.Test.YtfkdailfcmnjlaaDoorJB
import Derived.Test.YtfkdailfcmnjlaaDoorJC
import Derived.Test.YtfkdailfcmnjlaaDoorJD
import Derived.Test.YtfkdailfcmnjlaaDoorJE
import Derived.Test.YtfkdailfcmnjlaaDoorJF
import Derived.Test.YtfkdailfcmnjlaaDoorJG
import Derived.Test.YtfkdailfcmnjlaaDoorJH
set_option linter.unusedVariables false
set_option linter.unusedSimpArgs false
namespace Go.Proofs.YtfkdailfcmnjlaaDoor
open Go Go.RowKit
set_option maxRecDepth 100000
attribute [local go_sem ↓] Go.wp_at_zero Go.wp_at_succ

def mayP (op : Nat) (n : Int) (cells : Nat) : Bool := if op = 2 then decide (n ≤ 1) else if op = 3 then decide (n ≤ 4) else if op = 4 then decide (n ≤ 8) else if op = 5 ∨ op = 6 then decide (n < (cells : Int)) else decide (1 ≤ op ∧ op ≤ 18)
set_option maxHeartbeats 4000000 in
theorem mayBe_any (op : Nat) (n tj pl : Int) {cp cells : Nat} {w : World} (hc : w.cell? ⟨cp, 0, none⟩ = some (.int .i64 cells)) : Calls Tryd.prog 39 #[.pointer (some ⟨cp, 0, none⟩), insV op n tj pl] w fun e w' => e = .returned (.bool (mayP op n cells)) ∧ Below w.heap.size w w' := by
  unfold insV
  have HB : Hid (∀ o, Below w.heap.size w (w.alloc o)) := fun o => (Below.refl _ _).alloc (Nat.le_refl _) _
  have hc2 : ∀ o, (w.alloc o).cell? ⟨cp, 0, none⟩ = some (.int .i64 cells) := fun o => by rw [World.cell?_of_block (w := w) (a := ⟨cp, 0, none⟩) (Below.heap_alloc w o cp (World.block_lt_of_cell? w _ hc))]; exact hc
  by_cases h2 : op = 2
  · subst h2
    have HR : Hid (mayP 2 n cells = decide (n ≤ 1)) := rfl
    generalize mayP 2 n cells = R at *
    go_enter Tryd.func39, Tryd.ntmps39
    go_wp2
    go_ret
    exact ⟨by rw [HR.out]; rfl, HB.out _⟩
  by_cases h3 : op = 3
  · subst h3
    have HR : Hid (mayP 3 n cells = decide (n ≤ 4)) := rfl
    generalize mayP 3 n cells = R at *
    go_enter Tryd.func39, Tryd.ntmps39
    go_wp2
    go_ret
    exact ⟨by rw [HR.out]; rfl, HB.out _⟩
  by_cases h4 : op = 4
  · subst h4
    have HR : Hid (mayP 4 n cells = decide (n ≤ 8)) := rfl
    generalize mayP 4 n cells = R at *
    go_enter Tryd.func39, Tryd.ntmps39
    go_wp2
    go_ret
    exact ⟨by rw [HR.out]; rfl, HB.out _⟩
  by_cases h5 : op = 5
  · subst h5
    have HR : Hid (mayP 5 n cells = decide (n < (cells : Int))) := rfl
    generalize mayP 5 n cells = R at *
    go_enter Tryd.func39, Tryd.ntmps39
    go_wp2_with fail
    first | go_region | skip
    go_wp2
    go_ret
    exact ⟨by rw [HR.out]; rfl, (HB.out _).drew⟩
  by_cases h6 : op = 6
  · subst h6
    have HR : Hid (mayP 6 n cells = decide (n < (cells : Int))) := rfl
    generalize mayP 6 n cells = R at *
    go_enter Tryd.func39, Tryd.ntmps39
    go_wp2_with fail
    first | go_region | skip
    go_wp2
    go_ret
    exact ⟨by rw [HR.out]; rfl, (HB.out _).drew⟩
  · have HR : Hid (mayP op n cells = decide (1 ≤ op ∧ op ≤ 18)) := by show _ = _; unfold mayP; rw [if_neg h2, if_neg h3, if_neg h4, if_neg (by omega)]
    generalize mayP op n cells = R at *
    have b2 : ((op : Int) == 2) = false := by simp; omega
    have b3 : ((op : Int) == 3) = false := by simp; omega
    have b4 : ((op : Int) == 4) = false := by simp; omega
    have b5 : ((op : Int) == 5) = false := by simp; omega
    have b6 : ((op : Int) == 6) = false := by simp; omega
    clear h2 h3 h4 h5 h6
    by_cases h1 : 1 ≤ op
    · have h1' : (1 : Int) ≤ (op : Int) := by omega
      go_enter Tryd.func39, Tryd.ntmps39
      go_wp2
      go_ret
      refine ⟨ret_bool ?_, HB.out _⟩
      rw [HR.out]
      apply decide_eq_decide.2
      omega
    · obtain rfl : op = 0 := by omega
      go_enter Tryd.func39, Tryd.ntmps39
      go_wp2
      go_ret
      exact ⟨by rw [HR.out]; rfl, HB.out _⟩
theorem byte_cut (b : List UInt8) (p q i : Nat) (h : p + i < q) : byteAt (cut b p q) i = byteAt b (p + i) := by
  unfold byteAt cut
  rw [List.getD_eq_getElem?_getD, List.getD_eq_getElem?_getD, List.getElem?_take_of_lt (by omega), List.getElem?_drop]
theorem be_cut (b : List UInt8) (p q : Nat) : ∀ n, p + n ≤ q → beVal (cut b p q) 0 n = beVal b p n
  | 0, _ => rfl
  | n + 1, h => by rw [beVal, beVal, be_cut b p q n (by omega), Nat.zero_add, byte_cut b p q n (by omega)]
/-- The number that the program reads. -/
def numP (b : List UInt8) (a : Nat) : Int := signed64 (beVal b (a + 1) (followP (byteAt b a)))
def okD (b : List UInt8) (a : Nat) : Prop := sizeOp (byteAt b a) ≠ 0 ∧ a + sizeOp (byteAt b a) ≤ b.length ∧ (sizeOp (byteAt b a) = 2 → (byteAt b (a + 1) : Int) ≤ boundOp (byteAt b a) (byteAt b 2))
def okD_dec (b : List UInt8) (a : Nat) : Decidable (okD b a) := by unfold okD; infer_instance
theorem dec_succ {f : Nat} {b : List UInt8} {a : Nat} (h : a < b.length) : dec (f + 1) b a = @ite _ (okD b a) (okD_dec b a) ((dec f b (a + sizeOp (byteAt b a))).map (insAt b a :: ·)) none := by
  rw [dec, if_neg (by omega)]; rfl
theorem may_op {op : Nat} {n : Int} {cells : Nat} (h : mayP op n cells = true) : 1 ≤ op ∧ op ≤ 18 := by
  unfold mayP at h
  by_cases h2 : op = 2
  · omega
  rw [if_neg h2] at h
  by_cases h3 : op = 3
  · omega
  rw [if_neg h3] at h
  by_cases h4 : op = 4
  · omega
  rw [if_neg h4] at h
  by_cases h5 : op = 5 ∨ op = 6
  · omega
  rw [if_neg h5] at h
  simpa using h
theorem size_pos {op : Nat} (h : 1 ≤ op ∧ op ≤ 18) : sizeOp op ≠ 0 := by
  have e : op = 1 ∨ op = 2 ∨ op = 3 ∨ op = 4 ∨ op = 5 ∨ op = 6 ∨ op = 7 ∨ op = 8 ∨ op = 9 ∨ op = 10 ∨ op = 11 ∨ op = 12 ∨ op = 13 ∨ op = 14 ∨ op = 15 ∨ op = 16 ∨ op = 17 ∨ op = 18 := by omega
  rcases e with rfl | rfl | rfl | rfl | rfl | rfl | rfl | rfl | rfl | rfl | rfl | rfl | rfl | rfl | rfl | rfl | rfl | rfl <;> decide
theorem signed_small {n : Nat} (h : n < 9223372036854775808) : signed64 n = n := by unfold signed64; rw [if_pos h]
theorem num_one {b : List UInt8} {a : Nat} (h : followP (byteAt b a) = 1) : numP b a = (byteAt b (a + 1) : Nat) := by
  unfold numP
  rw [h]
  have hb := byte_lt b (a + 1)
  have e : beVal b (a + 1) 1 = byteAt b (a + 1) := by simp [beVal]
  rw [e, signed_small (by omega)]
theorem read_short {b : List UInt8} {a : Nat} (h : b.length < a + 1 + followP (byteAt b a)) : ¬ okD b a := fun ⟨h1, h2, _⟩ => by
  rw [size_follow h1] at h2; omega
theorem may_iff {b : List UInt8} {a : Nat} (h : a + 1 + followP (byteAt b a) ≤ b.length) : mayP (byteAt b a) (numP b a) (byteAt b 2) = true ↔ okD b a := by
  have hb2 : byteAt b a = 2 ∨ byteAt b a = 3 ∨ byteAt b a = 4 ∨ byteAt b a = 5 ∨ byteAt b a = 6 → numP b a = (byteAt b (a + 1) : Nat) := fun e => num_one (by rcases e with e | e | e | e | e <;> rw [e] <;> rfl)
  constructor
  · intro hm
    have ho := may_op hm
    have hs := size_pos ho
    refine ⟨hs, by rw [size_follow hs]; omega, fun h2 => ?_⟩
    unfold mayP at hm
    unfold boundOp
    by_cases e2 : byteAt b a = 2
    · rw [if_pos e2] at hm ⊢; rw [hb2 (by omega)] at hm; simpa using hm
    rw [if_neg e2] at hm ⊢
    by_cases e3 : byteAt b a = 3
    · rw [if_pos e3] at hm ⊢; rw [hb2 (by omega)] at hm; simpa using hm
    rw [if_neg e3] at hm ⊢
    by_cases e4 : byteAt b a = 4
    · rw [if_pos e4] at hm ⊢; rw [hb2 (by omega)] at hm; simpa using hm
    rw [if_neg e4] at hm ⊢
    by_cases e5 : byteAt b a = 5 ∨ byteAt b a = 6
    · rw [if_pos e5] at hm ⊢; rw [hb2 (by omega)] at hm
      have := of_decide_eq_true hm
      omega
    rw [if_neg e5]
    have := byte_lt b (a + 1)
    omega
  · rintro ⟨hs, _, h2⟩
    have ho := size_op hs
    unfold mayP
    unfold boundOp at h2
    by_cases e2 : byteAt b a = 2
    · rw [if_pos e2] at h2 ⊢; rw [hb2 (by omega)]; have := h2 (by rw [e2]; rfl); simpa using this
    rw [if_neg e2] at h2 ⊢
    by_cases e3 : byteAt b a = 3
    · rw [if_pos e3] at h2 ⊢; rw [hb2 (by omega)]; have := h2 (by rw [e3]; rfl); simpa using this
    rw [if_neg e3] at h2 ⊢
    by_cases e4 : byteAt b a = 4
    · rw [if_pos e4] at h2 ⊢; rw [hb2 (by omega)]; have := h2 (by rw [e4]; rfl); simpa using this
    rw [if_neg e4] at h2 ⊢
    by_cases e5 : byteAt b a = 5 ∨ byteAt b a = 6
    · rw [if_pos e5] at h2 ⊢; rw [hb2 (by omega)]
      have := h2 (by rcases e5 with e5 | e5 <;> rw [e5] <;> rfl)
      exact decide_eq_true (by omega)
    rw [if_neg e5]
    exact decide_eq_true ho
theorem ins_read {b : List UInt8} {a : Nat} (h : okD b a) : insAt b a = ⟨byteAt b a, numP b a, a⟩ ∧ sizeOp (byteAt b a) = 1 + followP (byteAt b a) := by
  have hs := size_follow h.1
  refine ⟨?_, hs⟩
  have e : numAt b (byteAt b a) a = numP b a := by
    unfold numAt numP
    by_cases h1 : byteAt b a = 1
    · rw [if_pos h1, h1]; rfl
    · rw [if_neg h1, hs, show 1 + followP (byteAt b a) - 1 = followP (byteAt b a) by omega]
      have hle : followP (byteAt b a) ≤ 2 := by unfold followP; rw [if_neg h1]; (repeat' split) <;> omega
      have h2 := beVal_lt b (a + 1) (followP (byteAt b a))
      have h3 : 256 ^ followP (byteAt b a) ≤ 256 ^ 2 := Nat.pow_le_pow_right (by decide) hle
      rw [signed_small (by omega)]
  unfold insAt; rw [e]
end Go.Proofs.YtfkdailfcmnjlaaDoor

namespace Go.Proofs.YtfkdailfcmnjlaaDoor
open Go Go.RowKit
set_option maxRecDepth 100000
attribute [local go_sem ↓] Go.wp_at_zero Go.wp_at_succ

theorem isNaN_any (x : Int) (w : World) : Calls Tryd.prog 96 #[.int .i64 x] w fun e w' => e = .returned (.bool false) ∧ w' = w := by
  go_enter Tryd.func96, Tryd.ntmps96
  go_wp2
  go_ret
  exact ⟨by simp, rfl⟩
def cmpI (x y : Int) : Int := if x < y then -1 else if y < x then 1 else 0
set_option maxHeartbeats 2000000 in
theorem compare_any (x y : Int) (w : World) : Calls Tryd.prog 92 #[.int .i64 x, .int .i64 y] w fun e w' => e = .returned (.int .i64 (cmpI x y)) ∧ w' = w := by
  have W1 := fun x w => isNaN_any x w
  by_cases h1 : x < y
  · have HR : Hid (cmpI x y = -1) := if_pos h1
    generalize cmpI x y = R at *
    go_enter Tryd.func92, Tryd.ntmps92
    go_wp2_with (
      go_at_call 96
      refine (W1 _ _).mono ?_
      rintro e w' ⟨rfl, rfl⟩)
    go_ret
    exact ⟨by rw [HR.out]; rfl, rfl⟩
  · by_cases h2 : y < x
    · have HR : Hid (cmpI x y = 1) := by show _ = _; unfold cmpI; rw [if_neg h1, if_pos h2]
      generalize cmpI x y = R at *
      go_enter Tryd.func92, Tryd.ntmps92
      go_wp2_with (
        go_at_call 96
        refine (W1 _ _).mono ?_
        rintro e w' ⟨rfl, rfl⟩)
      go_ret
      exact ⟨by rw [HR.out]; rfl, rfl⟩
    · have HR : Hid (cmpI x y = 0) := by show _ = _; unfold cmpI; rw [if_neg h1, if_neg h2]
      generalize cmpI x y = R at *
      go_enter Tryd.func92, Tryd.ntmps92
      go_wp2_with (
        go_at_call 96
        refine (W1 _ _).mono ?_
        rintro e w' ⟨rfl, rfl⟩)
      go_ret
      exact ⟨by rw [HR.out]; rfl, rfl⟩
set_option maxHeartbeats 2000000 in
theorem begC_any (op n tj pl t : Int) (w : World) : Calls Tryd.prog 91 #[.agg #[.int .i64 op, .int .i64 n, .int .i64 tj, .int .i64 pl], .int .i64 t] w fun e w' => e = .returned (.int .i64 (cmpI pl t)) ∧ Below w.heap.size w w' := by
  have W1 := fun w => compare_any pl t w
  generalize cmpI pl t = R at *
  have HB : Hid (∀ o, Below w.heap.size w (w.alloc o)) := fun o => (Below.refl _ _).alloc (Nat.le_refl _) _
  go_enter Tryd.func91, Tryd.ntmps91
  go_wp2_with (
    go_at_call 92
    refine (W1 _).mono ?_
    rintro e w' ⟨rfl, rfl⟩)
  go_ret
  exact ⟨rfl, HB.out _⟩
/-- A row of instructions in memory, whatever their jumps come to. -/
structure RowQ (w : World) (gi n : Nat) (fo fn ft fp : Nat → Int) : Prop where
  op : ∀ i, i < n → w.cell? ⟨gi, i * 4, none⟩ = some (.int .i64 (fo i))
  num : ∀ i, i < n → w.cell? ⟨gi, i * 4 + 1, none⟩ = some (.int .i64 (fn i))
  tos : ∀ i, i < n → w.cell? ⟨gi, i * 4 + 2, none⟩ = some (.int .i64 (ft i))
  pls : ∀ i, i < n → w.cell? ⟨gi, i * 4 + 3, none⟩ = some (.int .i64 (fp i))
theorem RowQ.below {w w' : World} {gi n : Nat} {fo fn ft fp : Nat → Int} (h : RowQ w gi n fo fn ft fp) (hb : Below w.heap.size w w') : RowQ w' gi n fo fn ft fp := by
  have hc : ∀ {o : Nat} {v : Value}, w.cell? ⟨gi, o, none⟩ = some v → w'.cell? ⟨gi, o, none⟩ = some v := fun {o v} e => by
    rw [hb.cell (World.block_lt_of_cell? w _ e)]; exact e
  exact ⟨fun i hi => hc (h.op i hi), fun i hi => hc (h.num i hi), fun i hi => hc (h.tos i hi), fun i hi => hc (h.pls i hi)⟩
/-- What the search answers. -/
def SearchAns (n : Nat) (fp : Nat → Int) (t : Int) (e : Ending) : Prop := ∃ i : Nat, i ≤ n ∧ e = .returned (.tuple #[.int .i64 i, .bool (decide (i < n ∧ fp i = t))]) ∧ (∀ j, j < i → fp j < t) ∧ ∀ j, i ≤ j → j < n → t ≤ fp j
set_option maxHeartbeats 4000000 in
theorem search_any {gi n cap : Nat} {fo fn ft fp : Nat → Int} {t : Int} {w : World} (h : RowQ w gi n fo fn ft fp) (hn : n ≤ 5000) (hs : ∀ i j, i < j → j < n → fp i < fp j) :
    Calls Tryd.prog 90 #[.slice (some ⟨gi, 0, none⟩) n cap, .int .i64 t, .func (.func 91) #[] #[]] w fun e w' => SearchAns n fp t e ∧ Below w.heap.size w w' := by
  have H : Hid _ := h
  have HS : Hid _ := hs
  have W1 := fun op n tj pl w => begC_any op n tj pl t w
  clear h hs
  go_enter Tryd.func90, Tryd.ntmps90
  go_wp2_with fail
  go_loopw [9, 10] (fun iv jv wr => ∃ i j : Nat, i ≤ j ∧ j ≤ n ∧ iv = .int .i64 i ∧ jv = .int .i64 j ∧ Hid (∀ q, q < i → fp q < t) ∧ Hid (∀ q, j ≤ q → q < n → t ≤ fp q) ∧ Hid (Below w.heap.size w wr)) (fun iv jv _ => (intOf jv).toNat - (intOf iv).toNat)
  case atStart => exact ⟨0, n, Nat.zero_le _, Nat.le_refl _, rfl, rfl, fun q hq => by omega, fun q h1 h2 => by omega, Below.refl _ _⟩
  case round =>
    obtain ⟨i, j, hij, hjn, rfl, rfl, HLo, HHi, HB⟩ := hrel
    have hr := H.out.below HB.out
    by_cases hlt : i < j
    · obtain ⟨m, hm⟩ : ∃ m : Nat, m = (i + j) / 2 := ⟨_, rfl⟩
      have hmi : i ≤ m ∧ m < j := by omega
      have c0 := hr.op m (by omega)
      have c1 := hr.num m (by omega)
      have c2 := hr.tos m (by omega)
      have c3 := hr.pls m (by omega)
      have hmn : (0 : Int) ≤ (m : Int) ∧ (m : Int) < (n : Int) := by omega
      have hmd : ((i : Int) + j) / 2 = m := by omega
      clear hr hm
      go_wp2_with fail
      refine (W1 _ _ _ _ _).mono ?_
      rintro e w2 ⟨rfl, hb2⟩
      have HB2 : Hid (Below w.heap.size w w2) := HB.out.trans (hb2.mono HB.out.size)
      by_cases hc : fp m < t
      · have hcm : cmpI (fp m) t = -1 := if_pos hc
        rw [hcm]
        have HC : Hid _ := hc
        clear hb2 hc hcm W1 c0 c1 c2 c3
        go_wp2
        go_roundw
        case rel =>
          refine ⟨m + 1, j, by omega, hjn, by go_num, rfl, fun q hq => ?_, HHi.out, HB2.out⟩
          by_cases e : q = m
          · subst e; exact HC.out
          · have := HS.out q m (by omega) (by omega); have := HC.out; omega
        case measure => simp [intOf]; omega
      · have hcm : 0 ≤ cmpI (fp m) t := by unfold cmpI; rw [if_neg hc]; split <;> omega
        have hcm2 : ¬ (cmpI (fp m) t < 0) := by omega
        generalize cmpI (fp m) t = z at *
        have HC : Hid _ := hc
        clear hb2 hc W1 c0 c1 c2 c3
        go_wp2
        go_roundw
        case rel =>
          refine ⟨i, m, by omega, by omega, rfl, rfl, HLo.out, fun q h1 h2 => ?_, HB2.out⟩
          have hc : ¬ fp m < t := HC.out
          by_cases e : q = m
          · subst e; omega
          · have := HS.out m q (by omega) h2; omega
        case measure => simp [intOf]; omega
    · obtain rfl : i = j := by omega
      have HA : Hid (∀ r : Bool, r = decide (i < n ∧ fp i = t) → SearchAns n fp t (.returned (.tuple #[.int .i64 i, .bool r]))) := fun r hr => ⟨i, hjn, by rw [hr], HLo.out, HHi.out⟩
      by_cases hin : i < n
      · have c0 := hr.op i hin
        have c1 := hr.num i hin
        have c2 := hr.tos i hin
        have c3 := hr.pls i hin
        have hib : (0 : Int) ≤ (i : Int) ∧ (i : Int) < (n : Int) := by omega
        clear hr
        go_wp2_with fail
        refine (W1 _ _ _ _ _).mono ?_
        rintro e w2 ⟨rfl, hb2⟩
        have HB2 : Hid (Below w.heap.size w w2) := HB.out.trans (hb2.mono HB.out.size)
        by_cases hc : fp i = t
        · have hcm : cmpI (fp i) t = 0 := by unfold cmpI; rw [if_neg (by omega), if_neg (by omega)]
          rw [hcm]
          have HR : Hid (true = decide (i < n ∧ fp i = t)) := (decide_eq_true ⟨hin, hc⟩).symm
          clear hb2 hc hcm W1 c0 c1 c2 c3
          go_wp2
          go_ret2
          exact ⟨HA.out _ HR.out, HB2.out⟩
        · have hcm : (cmpI (fp i) t == 0) = false := by
            have : cmpI (fp i) t ≠ 0 := by unfold cmpI; split <;> first | omega | (split <;> omega)
            simpa using this
          have HR : Hid (false = decide (i < n ∧ fp i = t)) := (decide_eq_false (fun h => hc h.2)).symm
          generalize cmpI (fp i) t = z at *
          clear hb2 hc W1 c0 c1 c2 c3
          go_wp2
          go_ret2
          exact ⟨HA.out _ HR.out, HB2.out⟩
      · have HR : Hid (false = decide (i < n ∧ fp i = t)) := (decide_eq_false (fun h => hin h.1)).symm
        clear hr
        go_wp2
        go_ret2
        exact ⟨HA.out _ HR.out, HB.out⟩
set_option maxHeartbeats 2000000 in
theorem beginning_any {cp gi n cap : Nat} {fo fn ft fp : Nat → Int} {t : Int} {w : World} (hc : w.cell? ⟨cp, 1, none⟩ = some (.slice (some ⟨gi, 0, none⟩) n cap)) (h : RowQ w gi n fo fn ft fp) (hn : n ≤ 5000) (hs : ∀ i j, i < j → j < n → fp i < fp j) :
    Calls Tryd.prog 69 #[.pointer (some ⟨cp, 0, none⟩), .int .i64 t] w fun e w' => SearchAns n fp t e ∧ Below w.heap.size w w' := by
  have W1 := search_any (cap := cap) (t := t) h hn hs
  clear h hs
  go_enter Tryd.func69, Tryd.ntmps69
  go_wp2_with fail
  refine W1.mono ?_
  rintro e w2 ⟨⟨i, hi, rfl, h1, h2⟩, hb⟩
  have HA : Hid (SearchAns n fp t (.returned (.tuple #[.int .i64 i, .bool (decide (i < n ∧ fp i = t))])) ∧ Below w.heap.size w w2) := ⟨⟨i, hi, rfl, h1, h2⟩, hb⟩
  clear h1 h2 hb W1
  generalize decide (i < n ∧ fp i = t) = r at *
  go_wp2
  go_ret2
  exact HA.out
end Go.Proofs.YtfkdailfcmnjlaaDoor

namespace Go.Proofs.YtfkdailfcmnjlaaDoor
open Go Go.RowKit
set_option maxRecDepth 100000
attribute [local go_sem ↓] Go.wp_at_zero Go.wp_at_succ

def insF (ins : List Ins) : (Nat → Int) × (Nat → Int) × (Nat → Int) := (fun i => ((ins.getD i noIns).op : Nat), fun i => (ins.getD i noIns).n, fun i => ((ins.getD i noIns).pl : Nat))
/-- The row, as far as jumps were looked for. -/
def RowJ (w : World) (gi : Nat) (ins : List Ins) (k : Nat) : Prop := RowQ w gi ins.length (insF ins).1 (insF ins).2.1 (fun i => if i < k then toOf ins (ins.getD i noIns) else 0) (insF ins).2.2
theorem RowQ.put {w : World} {gi n : Nat} {fo fn ft ft' fp : Nat → Int} (h : RowQ w gi n fo fn ft fp) {k : Nat} {x : Int} (hk : k < n) (hx : ft' k = x) (ho : ∀ i, i < n → i ≠ k → ft' i = ft i) : RowQ (w.setCell ⟨gi, k * 4 + 2, none⟩ (.int .i64 x)) gi n fo fn ft' fp := by
  refine ⟨fun i hi => ?_, fun i hi => ?_, fun i hi => ?_, fun i hi => ?_⟩
  · rw [cell_set_off _ _ _ _ _ (by omega)]; exact h.op i hi
  · rw [cell_set_off _ _ _ _ _ (by omega)]; exact h.num i hi
  · by_cases e : i = k
    · subst e; rw [cell_set_same _ _ _ _ (by rw [h.tos i hi]; rfl), hx]
    · rw [cell_set_off _ _ _ _ _ (by omega), ho i hi e]; exact h.tos i hi
  · rw [cell_set_off _ _ _ _ _ (by omega)]; exact h.pls i hi
theorem RowQ.weak {w : World} {gi n : Nat} {fo fn ft ft' fp : Nat → Int} (h : RowQ w gi n fo fn ft fp) (ho : ∀ i, i < n → ft' i = ft i) : RowQ w gi n fo fn ft' fp :=
  ⟨h.op, h.num, fun i hi => by rw [ho i hi]; exact h.tos i hi, h.pls⟩
/-- What the search finds is where a jump comes to. -/
theorem search_to {b : List UInt8} {ins : List Ins} (h : CodeOK b ins) {x : Ins} (hx : 0 ≤ x.n) {i : Nat} (h0 : i ≤ ins.length) (h1 : ∀ j, j < i → (insF ins).2.2 j < (x.pl : Int) + 3 + x.n) (h2 : ∀ j, i ≤ j → j < ins.length → (x.pl : Int) + 3 + x.n ≤ (insF ins).2.2 j) :
    jumpTo ins x = if i < ins.length ∧ (insF ins).2.2 i = (x.pl : Int) + 3 + x.n then some i else none := by
  have hp : ∀ j, (insF ins).2.2 j = ((ins.getD j noIns).pl : Nat) := fun _ => rfl
  by_cases hc : i < ins.length ∧ (insF ins).2.2 i = (x.pl : Int) + 3 + x.n
  · rw [if_pos hc]
    unfold jumpTo
    rw [List.findIdx?_eq_some_iff_getElem]
    refine ⟨hc.1, ?_, fun j hj => ?_⟩
    · have e := hc.2
      rw [hp, List.getD_eq_getElem?_getD, List.getElem?_eq_getElem hc.1] at e
      simp only [Option.getD_some] at e
      simp; omega
    · have e := h1 j hj
      have hjl : j < ins.length := by omega
      rw [hp, List.getD_eq_getElem?_getD, List.getElem?_eq_getElem hjl] at e
      simp only [Option.getD_some] at e
      simp; omega
  · rw [if_neg hc]
    unfold jumpTo
    rw [List.findIdx?_eq_none_iff]
    intro y hy
    obtain ⟨j, hj, rfl⟩ := List.mem_iff_getElem.1 hy
    have hpj : (insF ins).2.2 j = ((ins[j]).pl : Nat) := by rw [hp, List.getD_eq_getElem?_getD, List.getElem?_eq_getElem hj]; rfl
    simp only [beq_eq_false_iff_ne, ne_eq]
    intro e
    by_cases hji : j < i
    · have := h1 j hji; rw [hpj] at this; omega
    · by_cases hji2 : j = i
      · subst hji2; exact hc ⟨hj, by rw [hpj]; omega⟩
      · have hii : i < ins.length := by omega
        have q1 := h2 i (Nat.le_refl _) hii
        have q2 := behind_inc (fun x hx => (h.1 x hx).size) h.2 i j (by omega) hj
        rw [hp] at q1
        have q3 : (ins.getD j noIns).pl = (ins[j]).pl := by rw [List.getD_eq_getElem?_getD, List.getElem?_eq_getElem hj]; rfl
        have q4 : sizeOp (ins.getD i noIns).op ≠ 0 := (h.1 _ (getD_ins hii)).size
        omega
theorem pls_inc {b : List UInt8} {ins : List Ins} (h : CodeOK b ins) : ∀ i j, i < j → j < ins.length → (insF ins).2.2 i < (insF ins).2.2 j := fun i j hij hj => by
  have q2 := behind_inc (fun x hx => (h.1 x hx).size) h.2 i j hij hj
  have q4 : sizeOp (ins.getD i noIns).op ≠ 0 := (h.1 _ (getD_ins (by omega))).size
  show (((ins.getD i noIns).pl : Nat) : Int) < ((ins.getD j noIns).pl : Nat)
  omega
set_option maxHeartbeats 8000000 in
theorem findJumps_any {b : List UInt8} {ins : List Ins} {cp gi cap : Nat} {v0 v2 : Value} {w : World} (h : CodeOK b ins) (hb : b.length ≤ 4000) (hn : ins.length ≤ 4000) (hc : w.heap[cp]? = some (.cells #[v0, .slice (some ⟨gi, 0, none⟩) ins.length cap, v2] 96 (0, 0))) (hg : ∃ cs, w.heap[gi]? = some (.cells cs 105 (0, 0))) (hr : RowJ w gi ins 0) :
    Calls Tryd.prog 40 #[.pointer (some ⟨cp, 0, none⟩)] w fun e w' => e = .returned (.tuple #[]) ∧ RowJ w' gi ins ins.length ∧ Only (fun b => b = gi) w w' := by
  have p1 : w.cell? ⟨cp, 1, none⟩ = some (.slice (some ⟨gi, 0, none⟩) ins.length cap) := by rw [cell_of_row w cp 1 _ _ _ hc]; rfl
  have hgc : gi ≠ cp := fun e => by obtain ⟨cs, hg⟩ := hg; rw [e, hc] at hg; simp at hg
  have H : Hid _ := h
  have HC : Hid _ := hc
  have HG : Hid _ := hg
  have HR : Hid _ := hr
  clear h hc hg hr
  generalize hlen : ins.length = n at p1 hn
  have HL : Hid _ := hlen
  clear hlen
  go_enter Tryd.func40, Tryd.ntmps40
  go_wp2_with fail
  go_loopw [11] (fun kv wr => ∃ k : Nat, k ≤ n ∧ kv = .int .i64 k ∧ Hid (Only (fun b => b = gi) w wr) ∧ Hid (RowJ wr gi ins k) ∧ Hid (∀ o, wr.frozen? ⟨gi, o, none⟩ = false)) (fun kv _ => n - (intOf kv).toNat)
  case atStart => exact ⟨0, Nat.zero_le _, rfl, Only.refl _ _, HR.out, fun o => by obtain ⟨cs, hg⟩ := HG.out; simp [World.frozen?, hg]⟩
  case round =>
    obtain ⟨k, hk, rfl, HO, HJ, HFR⟩ := hrel
    have FR : Hid _ := HFR.out
    have hcp : wr.cell? ⟨cp, 1, none⟩ = some (.slice (some ⟨gi, 0, none⟩) n cap) := by
      rw [World.cell?_of_block (w := w) (a := ⟨cp, 1, none⟩) (HO.out.block cp (lt_of_get HC.out) (fun e => hgc e.symm))]; exact p1
    by_cases hlt : k < n
    · have hkl : k < ins.length := by rw [HL.out]; exact hlt
      have c0 := HJ.out.op k hkl
      have c1 := HJ.out.num k hkl
      have c2 := HJ.out.tos k hkl
      have c3 := HJ.out.pls k hkl
      rw [if_neg (Nat.lt_irrefl k)] at c2
      have hkb : (0 : Int) ≤ (k : Int) ∧ (k : Int) < (n : Int) := by omega
      have hxo := H.out.1 _ (getD_ins hkl)
      have hxn := num_ok hxo
      have hfits := hxo.fits
      have HX : Hid (∀ x, ins.getD k noIns = x → ins.getD k noIns = x) := fun _ h => h
      have e0 : (insF ins).1 k = ((ins.getD k noIns).op : Nat) := rfl
      have e1 : (insF ins).2.1 k = (ins.getD k noIns).n := rfl
      have e3 : (insF ins).2.2 k = ((ins.getD k noIns).pl : Nat) := rfl
      rw [e0] at c0
      rw [e1] at c1
      rw [e3] at c3
      have HST : Hid (∀ (W : World) (t : Int), (∀ i, i < ins.length → (if i < k + 1 then toOf ins (ins.getD i noIns) else 0) = if i = k then t else (if i < k then toOf ins (ins.getD i noIns) else 0)) ↔ toOf ins (ins.getD k noIns) = t) := fun W t => by
        constructor
        · intro h; have := h k hkl; rw [if_pos (by omega), if_pos rfl] at this; exact this
        · intro h i hi
          by_cases e : i = k
          · subst e; rw [if_pos (by omega), if_pos rfl, h]
          · rw [if_neg e]
            by_cases e2 : i < k
            · rw [if_pos (by omega), if_pos e2]
            · rw [if_neg (by omega), if_neg e2]
      have HTO : Hid (∃ t, toOf ins (ins.getD k noIns) = t) := ⟨_, rfl⟩
      generalize hx : ins.getD k noIns = x at *
      have W1 := fun w => jumps_any x.op x.n 0 (x.pl : Nat) w
      unfold insV at W1
      by_cases hj : x.op = 15 ∨ x.op = 16
      · have hdj : decide (x.op = 15 ∨ x.op = 16) = true := decide_eq_true hj
        rw [hdj] at W1
        have hf : followP x.op = 2 := by rcases hj with e | e <;> rw [e] <;> rfl
        have hsz3 : sizeOp x.op = 3 := by rcases hj with e | e <;> rw [e] <;> rfl
        obtain ⟨hn0, hn1⟩ := hxn.jump hsz3
        rw [hsz3] at hfits
        have W2 : ∀ w, Calls Tryd.prog 37 #[.agg #[.int .i64 (x.op : Nat), .int .i64 x.n, .int .i64 0, .int .i64 (x.pl : Nat)]] w fun e w' => e = .returned (.int .i64 3) ∧ Below w.heap.size w w' := fun w => by
          have := psize_any x.op x.n 0 (x.pl : Nat) w
          rw [hf] at this
          exact this
        have W3 : ∀ W, Below wr.heap.size wr W → Calls Tryd.prog 69 #[.pointer (some ⟨cp, 0, none⟩), .int .i64 ((x.pl : Int) + 3 + x.n)] W fun e w' => SearchAns n (insF ins).2.2 ((x.pl : Int) + 3 + x.n) e ∧ Below W.heap.size W w' := fun W hb => by
          rw [← HL.out]
          exact beginning_any (cap := cap) (by rw [hb.cell (World.block_lt_of_cell? wr _ hcp), HL.out]; exact hcp) (HJ.out.below hb) (by rw [HL.out]; omega) (pls_inc H.out)
        have HN : Hid (∀ (w' : World) (i : Nat), Below wr.heap.size wr w' → i ≤ n → (∀ j, j < i → (insF ins).2.2 j < (x.pl : Int) + 3 + x.n) → (∀ j, i ≤ j → j < n → (x.pl : Int) + 3 + x.n ≤ (insF ins).2.2 j) →
            ((i < n ∧ (insF ins).2.2 i = (x.pl : Int) + 3 + x.n) → w'.frozen? ⟨gi, k * 4 + 2, none⟩ = false ∧ w'.cell? ⟨gi, k * 4 + 2, none⟩ = some (.int .i64 0) ∧ Only (fun b => b = gi) w (w'.setCell ⟨gi, k * 4 + 2, none⟩ (.int .i64 i)) ∧ RowJ (w'.setCell ⟨gi, k * 4 + 2, none⟩ (.int .i64 i)) gi ins (k + 1)) ∧
            (¬ (i < n ∧ (insF ins).2.2 i = (x.pl : Int) + 3 + x.n) → Only (fun b => b = gi) w w' ∧ RowJ w' gi ins (k + 1))) := fun w' i hb hi h1 h2 => by
          have hjt := search_to H.out hn0 (x := x) (i := i) (by rw [HL.out]; exact hi) h1 (by rw [HL.out]; exact h2)
          rw [HL.out] at hjt
          have hto : toOf ins x = ((jumpTo ins x).getD 0 : Nat) := by unfold toOf; rw [if_pos hj]
          have ho' : Only (fun b => b = gi) w w' := HO.out.trans (Only.of_below (F := fun _ => False) hb) (fun _ _ h => h) (fun _ _ h => h.elim)
          have hg' : gi < wr.heap.size := World.block_lt_of_cell? wr _ c0
          refine ⟨fun hc => ?_, fun hc => ?_⟩
          · rw [if_pos hc] at hjt
            rw [hjt] at hto
            have hto' : toOf ins x = (i : Int) := hto
            obtain ⟨cs, hgc0⟩ := HG.out
            have hfr : w'.frozen? ⟨gi, k * 4 + 2, none⟩ = false := by
              have hfw : wr.frozen? ⟨gi, k * 4 + 2, none⟩ = false := FR.out _
              rw [hb.frozen (p := ⟨gi, k * 4 + 2, none⟩) hg']; exact hfw
            refine ⟨hfr, by rw [hb.cell (p := ⟨gi, k * 4 + 2, none⟩) hg']; exact c2, ho'.setCell (.inl rfl) _, ?_⟩
            refine (HJ.out.below hb).put hkl (by rw [if_pos (by omega), hx]; exact hto') (fun i' hi' hne => ?_)
            by_cases e2 : i' < k
            · rw [if_pos (by omega), if_pos e2]
            · rw [if_neg (by omega), if_neg e2]
          · rw [if_neg hc] at hjt
            rw [hjt] at hto
            refine ⟨ho', (HJ.out.below hb).weak (fun i' hi' => ?_)⟩
            by_cases e : i' = k
            · subst e; rw [if_pos (by omega), if_neg (by omega), hx, hto]; rfl
            · by_cases e2 : i' < k
              · rw [if_pos (by omega), if_pos e2]
              · rw [if_neg (by omega), if_neg e2]
        have hgl : gi < wr.heap.size := World.block_lt_of_cell? wr ⟨gi, k * 4, none⟩ c0
        have HFZ : Hid (∀ (w' : World) (v : Value), Below wr.heap.size wr w' → (∀ o, w'.frozen? ⟨gi, o, none⟩ = false) ∧ ∀ o, (w'.setCell ⟨gi, k * 4 + 2, none⟩ v).frozen? ⟨gi, o, none⟩ = false) := fun w' v hb => by
          have h1 : ∀ o, w'.frozen? ⟨gi, o, none⟩ = false := fun o => by rw [hb.frozen (p := ⟨gi, o, none⟩) hgl]; exact FR.out o
          exact ⟨h1, fun o => by simpa using h1 o⟩
        have KP : Hid (∀ W W', (Below wr.heap.size wr W ∧ W.cell? ⟨gi, k * 4, none⟩ = some (.int .i64 (x.op : Nat)) ∧ W.cell? ⟨gi, k * 4 + 1, none⟩ = some (.int .i64 x.n) ∧ W.cell? ⟨gi, k * 4 + 2, none⟩ = some (.int .i64 0) ∧ W.cell? ⟨gi, k * 4 + 3, none⟩ = some (.int .i64 (x.pl : Nat))) → Below W.heap.size W W' → (Below wr.heap.size wr W' ∧ W'.cell? ⟨gi, k * 4, none⟩ = some (.int .i64 (x.op : Nat)) ∧ W'.cell? ⟨gi, k * 4 + 1, none⟩ = some (.int .i64 x.n) ∧ W'.cell? ⟨gi, k * 4 + 2, none⟩ = some (.int .i64 0) ∧ W'.cell? ⟨gi, k * 4 + 3, none⟩ = some (.int .i64 (x.pl : Nat)))) := fun W W' hS hb => by
          obtain ⟨s0, s1, s2, s3, s4⟩ := hS
          have hgW : gi < W.heap.size := World.block_lt_of_cell? W ⟨gi, k * 4, none⟩ s1
          exact ⟨s0.trans (hb.mono s0.size), by rw [hb.cell (p := ⟨gi, k * 4, none⟩) hgW]; exact s1, by rw [hb.cell (p := ⟨gi, k * 4 + 1, none⟩) hgW]; exact s2, by rw [hb.cell (p := ⟨gi, k * 4 + 2, none⟩) hgW]; exact s3, by rw [hb.cell (p := ⟨gi, k * 4 + 3, none⟩) hgW]; exact s4⟩
        have KD : Hid (∀ W : World, (Below wr.heap.size wr W ∧ W.cell? ⟨gi, k * 4, none⟩ = some (.int .i64 (x.op : Nat)) ∧ W.cell? ⟨gi, k * 4 + 1, none⟩ = some (.int .i64 x.n) ∧ W.cell? ⟨gi, k * 4 + 2, none⟩ = some (.int .i64 0) ∧ W.cell? ⟨gi, k * 4 + 3, none⟩ = some (.int .i64 (x.pl : Nat))) → (Below wr.heap.size wr W.drew ∧ W.drew.cell? ⟨gi, k * 4, none⟩ = some (.int .i64 (x.op : Nat)) ∧ W.drew.cell? ⟨gi, k * 4 + 1, none⟩ = some (.int .i64 x.n) ∧ W.drew.cell? ⟨gi, k * 4 + 2, none⟩ = some (.int .i64 0) ∧ W.drew.cell? ⟨gi, k * 4 + 3, none⟩ = some (.int .i64 (x.pl : Nat)))) := fun W hS => ⟨hS.1.drew, hS.2⟩
        have hS0 : Below wr.heap.size wr wr ∧ wr.cell? ⟨gi, k * 4, none⟩ = some (.int .i64 (x.op : Nat)) ∧ wr.cell? ⟨gi, k * 4 + 1, none⟩ = some (.int .i64 x.n) ∧ wr.cell? ⟨gi, k * 4 + 2, none⟩ = some (.int .i64 0) ∧ wr.cell? ⟨gi, k * 4 + 3, none⟩ = some (.int .i64 (x.pl : Nat)) := ⟨Below.refl _ _, c0, c1, c2, c3⟩
        have hpl : x.pl ≤ 4000 := by omega
        have hw1 : IntKind.i64.wrap ((x.pl : Int) + 3) = (x.pl : Int) + 3 := by rw [IntKind.wrap_i64]; omega
        have hw2 : IntKind.i64.wrap ((x.pl : Int) + 3 + x.n) = (x.pl : Int) + 3 + x.n := by rw [IntKind.wrap_i64]; omega
        clear hxo hxn hfits hx hdj hj e0 e1 e3 HST HTO HX hf hsz3
        go_wp2_with (
          go_at_call 68
          refine (W1 _).mono ?_
          rintro e w2 ⟨rfl, hb2⟩
          have hS2 := KP.out _ _ hS0 hb2
          clear hb2)
        clear hS0 c0 c1 c2 c3 W1
        go_region_held3 (fun W => Below wr.heap.size wr W ∧ W.cell? ⟨gi, k * 4, none⟩ = some (.int .i64 (x.op : Nat)) ∧ W.cell? ⟨gi, k * 4 + 1, none⟩ = some (.int .i64 x.n) ∧ W.cell? ⟨gi, k * 4 + 2, none⟩ = some (.int .i64 0) ∧ W.cell? ⟨gi, k * 4 + 3, none⟩ = some (.int .i64 (x.pl : Nat))) (first | with_reducible exact KD.out _ (by assumption) | with_reducible exact KP.out _ _ (by assumption) (by assumption) | with_reducible assumption | go_keep)
          (first
            | (go_at_call 37; refine (W2 _).mono ?_; rintro e w3 ⟨rfl, hb3⟩)
            | (go_at_call 69; refine (W3 _ (by exact And.left (by assumption))).mono ?_; rintro e w4 ⟨⟨j, hj0, rfl, hj1, hj2⟩, hb4⟩; generalize hrr : decide (j < n ∧ (insF ins).2.2 j = (x.pl : Int) + 3 + x.n) = r; have HRR : Hid _ := hrr; clear hrr))
        rename_i hHeld
        obtain ⟨a1, a2⟩ := HN.out w4 j hHeld.1 hj0 hj1 hj2
        obtain ⟨z1, z2⟩ := HFZ.out w4 (.int .i64 j) hHeld.1
        have HZ1 : Hid _ := z1
        have HZ2 : Hid _ := z2
        clear hHeld hb3 hb4 KP KD W2 W3 HN HFZ z1 z2 hS2
        by_cases hc : j < n ∧ (insF ins).2.2 j = (x.pl : Int) + 3 + x.n
        · have hcd : decide (j < n ∧ (insF ins).2.2 j = (x.pl : Int) + 3 + x.n) = true := decide_eq_true hc
          obtain ⟨b1, b2, b3, b4⟩ := a1 hc
          have HB3 : Hid _ := b3
          have HB4 : Hid _ := b4
          obtain rfl : r = _ := HRR.out.symm.trans hcd
          clear hc hcd HRR a1 a2 hj1 hj2 b3 b4
          go_wp2
          go_roundw
          case rel => exact ⟨k + 1, by omega, by go_num, HB3.out, HB4.out, HZ2.out⟩
          case measure => simp [intOf]; omega
        · have hcd : decide (j < n ∧ (insF ins).2.2 j = (x.pl : Int) + 3 + x.n) = false := decide_eq_false hc
          obtain ⟨b3, b4⟩ := a2 hc
          have HB3 : Hid _ := b3
          have HB4 : Hid _ := b4
          obtain rfl : r = _ := HRR.out.symm.trans hcd
          clear hc hcd HRR a1 a2 hj1 hj2 b3 b4
          go_wp2
          go_roundw
          case rel => exact ⟨k + 1, by omega, by go_num, HB3.out, HB4.out, HZ1.out⟩
          case measure => simp [intOf]; omega
      · have hdj : decide (x.op = 15 ∨ x.op = 16) = false := decide_eq_false hj
        rw [hdj] at W1
        have HN : Hid (∀ w', Below wr.heap.size wr w' → Only (fun b => b = gi) w w' ∧ RowJ w' gi ins (k + 1) ∧ ∀ o, w'.frozen? ⟨gi, o, none⟩ = false) := fun w' hb => by
          refine ⟨HO.out.trans (Only.of_below (F := fun _ => False) hb) (fun _ _ h => h) (fun _ _ h => h.elim), ?_, fun o => by rw [hb.frozen (p := ⟨gi, o, none⟩) (show gi < wr.heap.size from World.block_lt_of_cell? wr ⟨gi, k * 4, none⟩ c0)]; exact FR.out o⟩
          refine (HJ.out.below hb).weak (fun i hi => ?_)
          by_cases e : i = k
          · subst e; rw [if_pos (by omega), if_neg (by omega), hx]; unfold toOf; rw [if_neg hj]
          · by_cases e2 : i < k
            · rw [if_pos (by omega), if_pos e2]
            · rw [if_neg (by omega), if_neg e2]
        clear hxo hxn hfits hx hdj hj e0 e1 e3
        go_wp2_with (
          go_at_call 68
          refine (W1 _).mono ?_
          rintro e w2 ⟨rfl, hb2⟩
          have HU : Hid _ := HN.out w2 hb2
          clear hb2)
        exact ⟨⟨k + 1, by omega, by go_num, HU.out.1, HU.out.2.1, HU.out.2.2⟩, by simp [intOf]; omega⟩
    · obtain rfl : k = n := by omega
      go_wp2
      go_end0
      exact ⟨rfl, HJ.out, HO.out⟩
end Go.Proofs.YtfkdailfcmnjlaaDoor
