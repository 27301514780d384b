/-
  The program's sums and differences stay within 64 bits. Codes: how types are written as letters; small facts. The document's small functions of codes: size, bound, takes. The document's 'does': what is known behind an instruction.
-/
import Derived.Test.YtfkdailfcmnjlaaDoorJA
import Derived.Test.YtfkdailfcmnjlaaDoorJB
import Derived.Test.YtfkdailfcmnjlaaDoorJC
import Derived.Test.YtfkdailfcmnjlaaDoorJD
set_option linter.unusedVariables false
set_option linter.unusedSimpArgs false
namespace Go.Proofs.YtfkdailfcmnjlaaDoor
open Go Go.RowKit
set_option maxRecDepth 100000
attribute [local go_sem ↓] Go.wp_at_zero Go.wp_at_succ

theorem wrap_over {x : Int} (h : 9223372036854775807 < x) (h2 : x ≤ 18446744073709551615) : IntKind.i64.wrap x = x - 18446744073709551616 := by
  simp [IntKind.wrap, IntKind.signed, IntKind.bits]
  omega
theorem wrap_under {x : Int} (h : x < -9223372036854775808) (h2 : -18446744073709551616 ≤ x) : IntKind.i64.wrap x = x + 18446744073709551616 := by
  simp [IntKind.wrap, IntKind.signed, IntKind.bits]
  omega

set_option maxHeartbeats 2000000 in
theorem padd_any {a b : Int} (ha : In64 a) (hb : In64 b) (w : World) : Calls Tryd.prog 81 #[.int .i64 a, .int .i64 b] w fun e w' => e = .returned (.int .i64 (clampI (a + b))) ∧ w' = w := by
  unfold In64 at ha hb
  by_cases h1 : 9223372036854775807 < a + b
  · have HC : Hid (clampI (a + b) = 9223372036854775807) := by show _ = _; unfold clampI; rw [if_pos h1]
    have w3 := wrap_over h1 (by omega)
    have a1 : 0 ≤ a := by omega
    have a2 : 0 ≤ b := by omega
    have a3 : a + b - 18446744073709551616 < 0 := by omega
    go_enter Tryd.func81, Tryd.ntmps81
    go_wp2_with fail
    go_ret
    exact ⟨by rw [HC.out]; rfl, rfl⟩
  · by_cases h2 : a + b < -9223372036854775808
    · have HC : Hid (clampI (a + b) = -9223372036854775808) := by show _ = _; unfold clampI; rw [if_neg h1, if_pos h2]
      have w3 := wrap_under h2 (by omega)
      have a1 : a < 0 := by omega
      have a2 : b < 0 := by omega
      have a3 : 0 ≤ a + b + 18446744073709551616 := by omega
      go_enter Tryd.func81, Tryd.ntmps81
      go_wp2_with fail
      go_ret
      exact ⟨by rw [HC.out]; rfl, rfl⟩
    · have HC : Hid (clampI (a + b) = a + b) := by show _ = _; unfold clampI; rw [if_neg h1, if_neg h2]
      have w3 : IntKind.i64.wrap (a + b) = a + b := wrap64 (by unfold In64; omega)
      by_cases a1 : 0 ≤ a
      · by_cases a2 : 0 ≤ b
        · have _h := 0
          go_enter Tryd.func81, Tryd.ntmps81
          go_wp2_with fail
          go_ret
          exact ⟨by rw [HC.out]; rfl, rfl⟩
        · have _h := 0
          go_enter Tryd.func81, Tryd.ntmps81
          go_wp2_with fail
          go_ret
          exact ⟨by rw [HC.out]; rfl, rfl⟩
      · by_cases a2 : 0 ≤ b
        · have _h := 0
          go_enter Tryd.func81, Tryd.ntmps81
          go_wp2_with fail
          go_ret
          exact ⟨by rw [HC.out]; rfl, rfl⟩
        · have _h := 0
          go_enter Tryd.func81, Tryd.ntmps81
          go_wp2_with fail
          go_ret
          exact ⟨by rw [HC.out]; rfl, rfl⟩

set_option maxHeartbeats 2000000 in
theorem psub_any {a b : Int} (ha : In64 a) (hb : In64 b) (w : World) : Calls Tryd.prog 82 #[.int .i64 a, .int .i64 b] w fun e w' => e = .returned (.int .i64 (clampI (a - b))) ∧ w' = w := by
  unfold In64 at ha hb
  by_cases h1 : 9223372036854775807 < a - b
  · have HC : Hid (clampI (a - b) = 9223372036854775807) := by show _ = _; unfold clampI; rw [if_pos h1]
    have w3 := wrap_over h1 (by omega)
    have a1 : 0 ≤ a := by omega
    have a2 : b < 0 := by omega
    have a3 : a - b - 18446744073709551616 < 0 := by omega
    go_enter Tryd.func82, Tryd.ntmps82
    go_wp2_with fail
    go_ret
    exact ⟨by rw [HC.out]; rfl, rfl⟩
  · by_cases h2 : a - b < -9223372036854775808
    · have HC : Hid (clampI (a - b) = -9223372036854775808) := by show _ = _; unfold clampI; rw [if_neg h1, if_pos h2]
      have w3 := wrap_under h2 (by omega)
      have a1 : a < 0 := by omega
      have a2 : 0 ≤ b := by omega
      have a3 : 0 ≤ a - b + 18446744073709551616 := by omega
      go_enter Tryd.func82, Tryd.ntmps82
      go_wp2_with fail
      go_ret
      exact ⟨by rw [HC.out]; rfl, rfl⟩
    · have HC : Hid (clampI (a - b) = a - b) := by show _ = _; unfold clampI; rw [if_neg h1, if_neg h2]
      have w3 : IntKind.i64.wrap (a - b) = a - b := wrap64 (by unfold In64; omega)
      by_cases a1 : 0 ≤ a
      · by_cases a2 : 0 ≤ b
        · have _h := 0
          go_enter Tryd.func82, Tryd.ntmps82
          go_wp2_with fail
          go_ret
          exact ⟨by rw [HC.out]; rfl, rfl⟩
        · have _h := 0
          go_enter Tryd.func82, Tryd.ntmps82
          go_wp2_with fail
          go_ret
          exact ⟨by rw [HC.out]; rfl, rfl⟩
      · by_cases a2 : 0 ≤ b
        · have _h := 0
          go_enter Tryd.func82, Tryd.ntmps82
          go_wp2_with fail
          go_ret
          exact ⟨by rw [HC.out]; rfl, rfl⟩
        · have _h := 0
          go_enter Tryd.func82, Tryd.ntmps82
          go_wp2_with fail
          go_ret
          exact ⟨by rw [HC.out]; rfl, rfl⟩
end Go.Proofs.YtfkdailfcmnjlaaDoor

namespace Go.Proofs.YtfkdailfcmnjlaaDoor
open Go Go.RowKit
set_option maxRecDepth 100000

/-- A type's letter. -/
def tyC (t : Nat) : UInt8 := if t = 0 then 45 else if t = 1 then 110 else if t = 2 then 116 else 109
/-- A stack's types, as letters, the lowest first; the cells'. -/
def stS (st : List Nat) : List UInt8 := st.reverse.map tyC
def clS (cl : List Nat) : List UInt8 := cl.map tyC
theorem stS_cons (t : Nat) (st : List Nat) : stS (t :: st) = stS st ++ [tyC t] := by simp [stS]
theorem stS_len (st : List Nat) : (stS st).length = st.length := by simp [stS]
theorem clS_len (cl : List Nat) : (clS cl).length = cl.length := by simp [clS]
/-- Types are below four; a stack has none of those that are not known. -/
def Tys (l : List Nat) : Prop := ∀ t ∈ l, t < 4
def Tys1 (l : List Nat) : Prop := ∀ t ∈ l, 1 ≤ t ∧ t < 4
theorem tyC_inj {a b : Nat} (ha : a < 4) (hb : b < 4) (h : tyC a = tyC b) : a = b := by
  have e1 : a = 0 ∨ a = 1 ∨ a = 2 ∨ a = 3 := by omega
  have e2 : b = 0 ∨ b = 1 ∨ b = 2 ∨ b = 3 := by omega
  rcases e1 with rfl | rfl | rfl | rfl <;> rcases e2 with rfl | rfl | rfl | rfl <;> first | rfl | (exfalso; revert h; decide)
theorem map_tyC_inj : ∀ {a b : List Nat}, Tys a → Tys b → a.map tyC = b.map tyC → a = b
  | [], [], _, _, _ => rfl
  | [], y :: s, _, _, h => by simp at h
  | x :: r, [], _, _, h => by simp at h
  | x :: r, y :: s, ha, hb, h => by
    simp only [List.map_cons, List.cons.injEq] at h
    rw [tyC_inj (ha x (by simp)) (hb y (by simp)) h.1, map_tyC_inj (fun t ht => ha t (by simp [ht])) (fun t ht => hb t (by simp [ht])) h.2]
theorem stS_inj {a b : List Nat} (ha : Tys1 a) (hb : Tys1 b) (h : stS a = stS b) : a = b := by
  have := map_tyC_inj (a := a.reverse) (b := b.reverse) (fun t ht => (ha t (by simpa using ht)).2) (fun t ht => (hb t (by simpa using ht)).2) h
  simpa using this
end Go.Proofs.YtfkdailfcmnjlaaDoor

namespace Go.Proofs.YtfkdailfcmnjlaaDoor
open Go Go.RowKit
set_option maxRecDepth 100000
attribute [local go_sem ↓] Go.wp_at_zero Go.wp_at_succ

set_option maxHeartbeats 1000000 in
theorem size_any (op : Nat) (h : op < 256) (w : World) : Calls Tryd.prog 25 #[.int .u8 op] w fun e w' => e = .returned (.int .i64 (sizeOp op)) ∧ w' = w := by
  go_enter Tryd.func25, Tryd.ntmps25
  go_wp2
  all_goals go_ret
  all_goals refine ⟨ret_int ?_, rfl⟩
  all_goals (simp only [beq_iff_eq, beq_eq_false_iff_ne, ne_eq] at *; unfold sizeOp; repeat' split) <;> first | rfl | omega
set_option maxHeartbeats 1000000 in
theorem bound_any (op cells : Nat) (h : op < 256) (hc : cells < 256) (w : World) : Calls Tryd.prog 26 #[.int .u8 op, .int .i64 cells] w fun e w' => e = .returned (.int .i64 (boundOp op cells)) ∧ w' = w := by
  go_enter Tryd.func26, Tryd.ntmps26
  go_wp2
  all_goals go_ret
  all_goals refine ⟨ret_int ?_, rfl⟩
  all_goals (simp only [beq_iff_eq, beq_eq_false_iff_ne, ne_eq] at *; unfold boundOp; repeat' split) <;> first | rfl | omega
theorem app_ba (a b : List UInt8) : (ByteArray.mk a.toArray) ++ (ByteArray.mk b.toArray) = ⟨(a ++ b).toArray⟩ := by
  apply ByteArray.ext; simp
/-- What 'takes' answers. -/
def takesS (stack types more : List UInt8) : Option (List UInt8) := if types.length ≤ stack.length ∧ stack.drop (stack.length - types.length) = types then some (stack.take (stack.length - types.length) ++ more) else none
def takesV (r : Option (List UInt8)) : Value := match r with
  | some s => .tuple #[S s, .bool true]
  | none => .tuple #[S [], .bool false]
set_option maxHeartbeats 1000000 in
theorem takes_any (stack types more : List UInt8) (h1 : stack.length ≤ 10000) (h2 : types.length ≤ 10000) (h3 : more.length ≤ 10000) (w : World) : Calls Tryd.prog 27 #[S stack, S types, S more] w fun e w' => e = .returned (takesV (takesS stack types more)) ∧ w' = w := by
  have ht : ({ data := stack.toArray } : ByteArray).extract (stack.length - types.length) stack.length = ⟨(stack.drop (stack.length - types.length)).toArray⟩ := by
    rw [cut_ex]; unfold cut; rw [List.take_of_length_le (by simp)]
  have ht2 : ({ data := stack.toArray } : ByteArray).extract 0 (stack.length - types.length) = ⟨(stack.take (stack.length - types.length)).toArray⟩ := by
    rw [cut_ex]; unfold cut; simp
  have HT : Hid (takesS stack types more = if types.length ≤ stack.length ∧ stack.drop (stack.length - types.length) = types then some (stack.take (stack.length - types.length) ++ more) else none) := rfl
  have HT1 : Hid _ := ht
  have HT2 : Hid _ := ht2
  clear ht ht2
  generalize takesS stack types more = r at *
  by_cases hl : types.length ≤ stack.length
  · have hl' : ((stack.length : Int) - types.length).toNat = stack.length - types.length := by omega
    by_cases he : stack.drop (stack.length - types.length) = types
    · have hr : Hid _ := HT.out.trans (if_pos ⟨hl, he⟩)
      clear HT
      go_enter Tryd.func27, Tryd.ntmps27
      go_wp2
      all_goals go_ret2
      · exfalso
        rename_i h0
        rw [HT1.out, ByteArray.toList_mk] at h0
        simp [he] at h0; omega
      · refine ⟨?_, rfl⟩
        rw [hr.out, takesV]
        simp [ByteArray.toList_mk, HT2.out, app_ba]
    · have hr : Hid _ := HT.out.trans (if_neg (fun h => he h.2))
      clear HT
      go_enter Tryd.func27, Tryd.ntmps27
      go_wp2
      all_goals go_ret2
      · exact ⟨by rw [hr.out]; rfl, rfl⟩
      · exfalso
        rename_i h0
        rw [HT1.out, ByteArray.toList_mk] at h0
        simp [he] at h0
  · have hr : Hid _ := HT.out.trans (if_neg (fun h => hl h.1))
    clear HT
    go_enter Tryd.func27, Tryd.ntmps27
    go_wp2
    all_goals go_ret2
    exact ⟨by rw [hr.out]; rfl, rfl⟩
end Go.Proofs.YtfkdailfcmnjlaaDoor

namespace Go.Proofs.YtfkdailfcmnjlaaDoor
open Go Go.RowKit
set_option maxRecDepth 100000
attribute [local go_sem ↓] Go.wp_at_zero Go.wp_at_succ

/-- What is known at a place, as the document has it. -/
def knV (k : Kn) : Value := .agg #[.bool true, S (stS k.st), S (clS k.cl)]
def DoesAns (r : Option Kn) (e : Ending) : Prop := match r with
  | some k => e = .returned (.tuple #[knV k, .bool true])
  | none => ∃ s1 s2, e = .returned (.tuple #[.agg #[.bool true, .string s1, .string s2], .bool false])
theorem stS_app (a b : List Nat) : stS (a ++ b) = stS b ++ stS a := by simp [stS]
theorem takes_st2 {st want more : List Nat} (h1 : Tys1 st) (h2 : Tys1 want) : takesS (stS st) (stS want) (stS more) = if st.take want.length = want then some (stS (more ++ st.drop want.length)) else none := by
  unfold takesS
  rw [stS_len, stS_len]
  by_cases h : st.take want.length = want
  · have hl : want.length ≤ st.length := by have := congrArg List.length h; simp at this; omega
    have e : stS st = stS (st.drop want.length) ++ stS want := by
      conv => lhs; rw [← List.take_append_drop want.length st, h]
      exact stS_app _ _
    have hd : (stS (st.drop want.length)).length = st.length - want.length := by rw [stS_len]; simp
    rw [if_pos h, if_pos ⟨hl, by rw [e, List.drop_append_of_le_length (by omega), List.drop_of_length_le (by omega)]; rfl⟩, e, List.take_append_of_le_length (by omega), List.take_of_length_le (by omega), stS_app]
  · rw [if_neg h, if_neg]
    rintro ⟨hl, hd⟩
    refine h ?_
    have e : stS st = stS (st.drop want.length) ++ stS (st.take want.length) := by
      conv => lhs; rw [← List.take_append_drop want.length st]
      exact stS_app _ _
    have hl2 : (stS (st.drop want.length)).length = st.length - want.length := by rw [stS_len]; simp
    rw [e, List.drop_append_of_le_length (by omega), List.drop_of_length_le (by omega)] at hd
    exact stS_inj (fun t ht => h1 t (List.mem_of_mem_take ht)) h2 hd
theorem below_two (w : World) (o1 o2 : Obj) : Below w.heap.size w ((w.alloc o1).alloc o2) := ((Below.refl _ _).alloc (Nat.le_refl _) _).alloc (by simp) _
abbrev BA (l : List UInt8) : ByteArray := ⟨l.toArray⟩
set_option maxHeartbeats 4000000 in
theorem does1 {b : List UInt8} {a n : Nat} {k : Kn} (hb : b.length ≤ 4000) (hk : k.st.length ≤ 100) (hc : k.cl.length ≤ 255) (h1 : Tys1 k.st) (h2 : Tys k.cl) (ha : a < (ByteArray.mk b.toArray).size) (hop : ((ByteArray.mk b.toArray)[a]).toNat = 1) (w : World) : Calls Tryd.prog 14 #[S b, .int .i64 a, knV k] w fun e w' => DoesAns (doesK 1 n k) e ∧ Below w.heap.size w w' := by
  have ha' : a < b.length := ha
  have hl := stS_len k.st
  have HR : Hid (doesK 1 n k = some ⟨1 :: k.st, k.cl⟩ ∧ S (stS (1 :: k.st)) = Value.string (BA (stS k.st) ++ BA [110])) := ⟨rfl, by rw [stS_cons, app_ba]; rfl⟩
  unfold knV
  clear h1 h2
  go_enter Tryd.func14, Tryd.ntmps14
  go_wp2
  refine bodyPost_ret (v := .tuple #[.agg #[.bool true, .string (BA (stS k.st) ++ BA [110]), S (clS k.cl)], .bool true]) (by simp [results, Tryd.results14, go_sem]) rfl ?_
  exact ⟨by rw [HR.out.1]; show _ = _; rw [knV, HR.out.2], below_two _ _ _⟩
set_option maxHeartbeats 4000000 in
theorem does2 {b : List UInt8} {a n : Nat} {k : Kn} (hb : b.length ≤ 4000) (hk : k.st.length ≤ 100) (hc : k.cl.length ≤ 255) (h1 : Tys1 k.st) (h2 : Tys k.cl) (ha : a < (ByteArray.mk b.toArray).size) (hop : ((ByteArray.mk b.toArray)[a]).toNat = 2) (w : World) : Calls Tryd.prog 14 #[S b, .int .i64 a, knV k] w fun e w' => DoesAns (doesK 2 n k) e ∧ Below w.heap.size w w' := by
  have ha' : a < b.length := ha
  have hl := stS_len k.st
  have HR : Hid (doesK 2 n k = some ⟨2 :: k.st, k.cl⟩ ∧ S (stS (2 :: k.st)) = Value.string (BA (stS k.st) ++ BA [116])) := ⟨rfl, by rw [stS_cons, app_ba]; rfl⟩
  unfold knV
  clear h1 h2
  go_enter Tryd.func14, Tryd.ntmps14
  go_wp2
  refine bodyPost_ret (v := .tuple #[.agg #[.bool true, .string (BA (stS k.st) ++ BA [116]), S (clS k.cl)], .bool true]) (by simp [results, Tryd.results14, go_sem]) rfl ?_
  exact ⟨by rw [HR.out.1]; show _ = _; rw [knV, HR.out.2], below_two _ _ _⟩
set_option maxHeartbeats 4000000 in
theorem does3 {b : List UInt8} {a n : Nat} {k : Kn} (hb : b.length ≤ 4000) (hk : k.st.length ≤ 100) (hc : k.cl.length ≤ 255) (h1 : Tys1 k.st) (h2 : Tys k.cl) (ha : a < (ByteArray.mk b.toArray).size) (hop : ((ByteArray.mk b.toArray)[a]).toNat = 3) (w : World) : Calls Tryd.prog 14 #[S b, .int .i64 a, knV k] w fun e w' => DoesAns (doesK 3 n k) e ∧ Below w.heap.size w w' := by
  have ha' : a < b.length := ha
  have hl := stS_len k.st
  have HR : Hid (doesK 3 n k = some ⟨3 :: k.st, k.cl⟩ ∧ S (stS (3 :: k.st)) = Value.string (BA (stS k.st) ++ BA [109])) := ⟨rfl, by rw [stS_cons, app_ba]; rfl⟩
  unfold knV
  clear h1 h2
  go_enter Tryd.func14, Tryd.ntmps14
  go_wp2
  refine bodyPost_ret (v := .tuple #[.agg #[.bool true, .string (BA (stS k.st) ++ BA [109]), S (clS k.cl)], .bool true]) (by simp [results, Tryd.results14, go_sem]) rfl ?_
  exact ⟨by rw [HR.out.1]; show _ = _; rw [knV, HR.out.2], below_two _ _ _⟩
set_option maxHeartbeats 4000000 in
theorem does16 {b : List UInt8} {a n : Nat} {k : Kn} (hb : b.length ≤ 4000) (hk : k.st.length ≤ 100) (hc : k.cl.length ≤ 255) (h1 : Tys1 k.st) (h2 : Tys k.cl) (ha : a < (ByteArray.mk b.toArray).size) (hop : ((ByteArray.mk b.toArray)[a]).toNat = 16) (w : World) : Calls Tryd.prog 14 #[S b, .int .i64 a, knV k] w fun e w' => DoesAns (doesK 16 n k) e ∧ Below w.heap.size w w' := by
  have ha' : a < b.length := ha
  have hl := stS_len k.st
  have HR : Hid (doesK 16 n k = some k) := rfl
  unfold knV
  clear h1 h2
  go_enter Tryd.func14, Tryd.ntmps14
  go_wp2
  refine bodyPost_ret (v := .tuple #[.agg #[.bool true, S (stS k.st), S (clS k.cl)], .bool true]) (by simp [results, Tryd.results14, go_sem]) rfl ?_
  exact ⟨by rw [HR.out]; rfl, below_two _ _ _⟩
set_option maxHeartbeats 4000000 in
theorem does17 {b : List UInt8} {a n : Nat} {k : Kn} (hb : b.length ≤ 4000) (hk : k.st.length ≤ 100) (hc : k.cl.length ≤ 255) (h1 : Tys1 k.st) (h2 : Tys k.cl) (ha : a < (ByteArray.mk b.toArray).size) (hop : ((ByteArray.mk b.toArray)[a]).toNat = 17) (w : World) : Calls Tryd.prog 14 #[S b, .int .i64 a, knV k] w fun e w' => DoesAns (doesK 17 n k) e ∧ Below w.heap.size w w' := by
  have ha' : a < b.length := ha
  have hl := stS_len k.st
  have HR : Hid (doesK 17 n k = some k) := rfl
  unfold knV
  clear h1 h2
  go_enter Tryd.func14, Tryd.ntmps14
  go_wp2
  refine bodyPost_ret (v := .tuple #[.agg #[.bool true, S (stS k.st), S (clS k.cl)], .bool true]) (by simp [results, Tryd.results14, go_sem]) rfl ?_
  exact ⟨by rw [HR.out]; rfl, below_two _ _ _⟩
set_option maxHeartbeats 4000000 in
theorem does18 {b : List UInt8} {a n : Nat} {k : Kn} (hb : b.length ≤ 4000) (hk : k.st.length ≤ 100) (hc : k.cl.length ≤ 255) (h1 : Tys1 k.st) (h2 : Tys k.cl) (ha : a < (ByteArray.mk b.toArray).size) (hop : ((ByteArray.mk b.toArray)[a]).toNat = 18) (w : World) : Calls Tryd.prog 14 #[S b, .int .i64 a, knV k] w fun e w' => DoesAns (doesK 18 n k) e ∧ Below w.heap.size w w' := by
  have ha' : a < b.length := ha
  have hl := stS_len k.st
  have HR : Hid (doesK 18 n k = some k) := rfl
  unfold knV
  clear h1 h2
  go_enter Tryd.func14, Tryd.ntmps14
  go_wp2
  refine bodyPost_ret (v := .tuple #[.agg #[.bool true, S (stS k.st), S (clS k.cl)], .bool true]) (by simp [results, Tryd.results14, go_sem]) rfl ?_
  exact ⟨by rw [HR.out]; rfl, below_two _ _ _⟩
set_option maxHeartbeats 4000000 in
theorem does7 {b : List UInt8} {a n : Nat} {k : Kn} (hb : b.length ≤ 4000) (hk : k.st.length ≤ 100) (hc : k.cl.length ≤ 255) (h1 : Tys1 k.st) (h2 : Tys k.cl) (ha : a < (ByteArray.mk b.toArray).size) (hop : ((ByteArray.mk b.toArray)[a]).toNat = 7) (w : World) : Calls Tryd.prog 14 #[S b, .int .i64 a, knV k] w fun e w' => DoesAns (doesK 7 n k) e ∧ Below w.heap.size w w' := by
  have ha' : a < b.length := ha
  have hl := stS_len k.st
  have HT : Hid (takesS (stS k.st) (stS [1, 1]) (stS [1]) = if k.st.take 2 = [1, 1] then some (stS ([1] ++ k.st.drop 2)) else none) := takes_st2 (want := [1, 1]) (more := [1]) h1 (by intro t ht; simp at ht; subst ht; decide)
  have HR : Hid (doesK 7 n k = if k.st.take 2 = [1, 1] then some ⟨[1] ++ k.st.drop 2, k.cl⟩ else none) := rfl
  have HC := fun W => takes_any (stS k.st) (stS [1, 1]) (stS [1]) (by omega) (by decide) (by decide) W
  unfold knV
  clear h1 h2
  by_cases hs : k.st.take 2 = [1, 1]
  · rw [HT.out, if_pos hs] at HC
    have HR2 : Hid _ := HR.out.trans (if_pos hs)
    clear HT HR
    unfold takesV at HC
    simp only [] at HC
    go_enter Tryd.func14, Tryd.ntmps14
    go_wp2_with fail
    refine (HC _).mono ?_
    rintro e w1 ⟨rfl, rfl⟩
    clear HC
    go_wp2
    refine bodyPost_ret (v := .tuple #[.agg #[.bool true, S (stS ([1] ++ k.st.drop 2)), S (clS k.cl)], .bool true]) (by simp [results, Tryd.results14, go_sem]) rfl ?_
    exact ⟨by rw [HR2.out]; rfl, below_two _ _ _⟩
  · rw [HT.out, if_neg hs] at HC
    have HR2 : Hid _ := HR.out.trans (if_neg hs)
    clear HT HR
    unfold takesV at HC
    simp only [] at HC
    go_enter Tryd.func14, Tryd.ntmps14
    go_wp2_with fail
    refine (HC _).mono ?_
    rintro e w1 ⟨rfl, rfl⟩
    clear HC
    go_wp2
    refine bodyPost_ret (v := .tuple #[.agg #[.bool true, S [], S (clS k.cl)], .bool false]) (by simp [results, Tryd.results14, go_sem]) rfl ?_
    exact ⟨by rw [HR2.out]; exact ⟨_, _, rfl⟩, below_two _ _ _⟩
set_option maxHeartbeats 4000000 in
theorem does8 {b : List UInt8} {a n : Nat} {k : Kn} (hb : b.length ≤ 4000) (hk : k.st.length ≤ 100) (hc : k.cl.length ≤ 255) (h1 : Tys1 k.st) (h2 : Tys k.cl) (ha : a < (ByteArray.mk b.toArray).size) (hop : ((ByteArray.mk b.toArray)[a]).toNat = 8) (w : World) : Calls Tryd.prog 14 #[S b, .int .i64 a, knV k] w fun e w' => DoesAns (doesK 8 n k) e ∧ Below w.heap.size w w' := by
  have ha' : a < b.length := ha
  have hl := stS_len k.st
  have HT : Hid (takesS (stS k.st) (stS [1, 1]) (stS [1]) = if k.st.take 2 = [1, 1] then some (stS ([1] ++ k.st.drop 2)) else none) := takes_st2 (want := [1, 1]) (more := [1]) h1 (by intro t ht; simp at ht; subst ht; decide)
  have HR : Hid (doesK 8 n k = if k.st.take 2 = [1, 1] then some ⟨[1] ++ k.st.drop 2, k.cl⟩ else none) := rfl
  have HC := fun W => takes_any (stS k.st) (stS [1, 1]) (stS [1]) (by omega) (by decide) (by decide) W
  unfold knV
  clear h1 h2
  by_cases hs : k.st.take 2 = [1, 1]
  · rw [HT.out, if_pos hs] at HC
    have HR2 : Hid _ := HR.out.trans (if_pos hs)
    clear HT HR
    unfold takesV at HC
    simp only [] at HC
    go_enter Tryd.func14, Tryd.ntmps14
    go_wp2_with fail
    refine (HC _).mono ?_
    rintro e w1 ⟨rfl, rfl⟩
    clear HC
    go_wp2
    refine bodyPost_ret (v := .tuple #[.agg #[.bool true, S (stS ([1] ++ k.st.drop 2)), S (clS k.cl)], .bool true]) (by simp [results, Tryd.results14, go_sem]) rfl ?_
    exact ⟨by rw [HR2.out]; rfl, below_two _ _ _⟩
  · rw [HT.out, if_neg hs] at HC
    have HR2 : Hid _ := HR.out.trans (if_neg hs)
    clear HT HR
    unfold takesV at HC
    simp only [] at HC
    go_enter Tryd.func14, Tryd.ntmps14
    go_wp2_with fail
    refine (HC _).mono ?_
    rintro e w1 ⟨rfl, rfl⟩
    clear HC
    go_wp2
    refine bodyPost_ret (v := .tuple #[.agg #[.bool true, S [], S (clS k.cl)], .bool false]) (by simp [results, Tryd.results14, go_sem]) rfl ?_
    exact ⟨by rw [HR2.out]; exact ⟨_, _, rfl⟩, below_two _ _ _⟩
set_option maxHeartbeats 4000000 in
theorem does10 {b : List UInt8} {a n : Nat} {k : Kn} (hb : b.length ≤ 4000) (hk : k.st.length ≤ 100) (hc : k.cl.length ≤ 255) (h1 : Tys1 k.st) (h2 : Tys k.cl) (ha : a < (ByteArray.mk b.toArray).size) (hop : ((ByteArray.mk b.toArray)[a]).toNat = 10) (w : World) : Calls Tryd.prog 14 #[S b, .int .i64 a, knV k] w fun e w' => DoesAns (doesK 10 n k) e ∧ Below w.heap.size w w' := by
  have ha' : a < b.length := ha
  have hl := stS_len k.st
  have HT : Hid (takesS (stS k.st) (stS [1, 1]) (stS [2]) = if k.st.take 2 = [1, 1] then some (stS ([2] ++ k.st.drop 2)) else none) := takes_st2 (want := [1, 1]) (more := [2]) h1 (by intro t ht; simp at ht; subst ht; decide)
  have HR : Hid (doesK 10 n k = if k.st.take 2 = [1, 1] then some ⟨[2] ++ k.st.drop 2, k.cl⟩ else none) := rfl
  have HC := fun W => takes_any (stS k.st) (stS [1, 1]) (stS [2]) (by omega) (by decide) (by decide) W
  unfold knV
  clear h1 h2
  by_cases hs : k.st.take 2 = [1, 1]
  · rw [HT.out, if_pos hs] at HC
    have HR2 : Hid _ := HR.out.trans (if_pos hs)
    clear HT HR
    unfold takesV at HC
    simp only [] at HC
    go_enter Tryd.func14, Tryd.ntmps14
    go_wp2_with fail
    refine (HC _).mono ?_
    rintro e w1 ⟨rfl, rfl⟩
    clear HC
    go_wp2
    refine bodyPost_ret (v := .tuple #[.agg #[.bool true, S (stS ([2] ++ k.st.drop 2)), S (clS k.cl)], .bool true]) (by simp [results, Tryd.results14, go_sem]) rfl ?_
    exact ⟨by rw [HR2.out]; rfl, below_two _ _ _⟩
  · rw [HT.out, if_neg hs] at HC
    have HR2 : Hid _ := HR.out.trans (if_neg hs)
    clear HT HR
    unfold takesV at HC
    simp only [] at HC
    go_enter Tryd.func14, Tryd.ntmps14
    go_wp2_with fail
    refine (HC _).mono ?_
    rintro e w1 ⟨rfl, rfl⟩
    clear HC
    go_wp2
    refine bodyPost_ret (v := .tuple #[.agg #[.bool true, S [], S (clS k.cl)], .bool false]) (by simp [results, Tryd.results14, go_sem]) rfl ?_
    exact ⟨by rw [HR2.out]; exact ⟨_, _, rfl⟩, below_two _ _ _⟩
set_option maxHeartbeats 4000000 in
theorem does11 {b : List UInt8} {a n : Nat} {k : Kn} (hb : b.length ≤ 4000) (hk : k.st.length ≤ 100) (hc : k.cl.length ≤ 255) (h1 : Tys1 k.st) (h2 : Tys k.cl) (ha : a < (ByteArray.mk b.toArray).size) (hop : ((ByteArray.mk b.toArray)[a]).toNat = 11) (w : World) : Calls Tryd.prog 14 #[S b, .int .i64 a, knV k] w fun e w' => DoesAns (doesK 11 n k) e ∧ Below w.heap.size w w' := by
  have ha' : a < b.length := ha
  have hl := stS_len k.st
  have HT : Hid (takesS (stS k.st) (stS [1, 1]) (stS [2]) = if k.st.take 2 = [1, 1] then some (stS ([2] ++ k.st.drop 2)) else none) := takes_st2 (want := [1, 1]) (more := [2]) h1 (by intro t ht; simp at ht; subst ht; decide)
  have HR : Hid (doesK 11 n k = if k.st.take 2 = [1, 1] then some ⟨[2] ++ k.st.drop 2, k.cl⟩ else none) := rfl
  have HC := fun W => takes_any (stS k.st) (stS [1, 1]) (stS [2]) (by omega) (by decide) (by decide) W
  unfold knV
  clear h1 h2
  by_cases hs : k.st.take 2 = [1, 1]
  · rw [HT.out, if_pos hs] at HC
    have HR2 : Hid _ := HR.out.trans (if_pos hs)
    clear HT HR
    unfold takesV at HC
    simp only [] at HC
    go_enter Tryd.func14, Tryd.ntmps14
    go_wp2_with fail
    refine (HC _).mono ?_
    rintro e w1 ⟨rfl, rfl⟩
    clear HC
    go_wp2
    refine bodyPost_ret (v := .tuple #[.agg #[.bool true, S (stS ([2] ++ k.st.drop 2)), S (clS k.cl)], .bool true]) (by simp [results, Tryd.results14, go_sem]) rfl ?_
    exact ⟨by rw [HR2.out]; rfl, below_two _ _ _⟩
  · rw [HT.out, if_neg hs] at HC
    have HR2 : Hid _ := HR.out.trans (if_neg hs)
    clear HT HR
    unfold takesV at HC
    simp only [] at HC
    go_enter Tryd.func14, Tryd.ntmps14
    go_wp2_with fail
    refine (HC _).mono ?_
    rintro e w1 ⟨rfl, rfl⟩
    clear HC
    go_wp2
    refine bodyPost_ret (v := .tuple #[.agg #[.bool true, S [], S (clS k.cl)], .bool false]) (by simp [results, Tryd.results14, go_sem]) rfl ?_
    exact ⟨by rw [HR2.out]; exact ⟨_, _, rfl⟩, below_two _ _ _⟩
set_option maxHeartbeats 4000000 in
theorem does12 {b : List UInt8} {a n : Nat} {k : Kn} (hb : b.length ≤ 4000) (hk : k.st.length ≤ 100) (hc : k.cl.length ≤ 255) (h1 : Tys1 k.st) (h2 : Tys k.cl) (ha : a < (ByteArray.mk b.toArray).size) (hop : ((ByteArray.mk b.toArray)[a]).toNat = 12) (w : World) : Calls Tryd.prog 14 #[S b, .int .i64 a, knV k] w fun e w' => DoesAns (doesK 12 n k) e ∧ Below w.heap.size w w' := by
  have ha' : a < b.length := ha
  have hl := stS_len k.st
  have HT : Hid (takesS (stS k.st) (stS [2]) (stS [2]) = if k.st.take 1 = [2] then some (stS ([2] ++ k.st.drop 1)) else none) := takes_st2 (want := [2]) (more := [2]) h1 (by intro t ht; simp at ht; subst ht; decide)
  have HR : Hid (doesK 12 n k = if k.st.take 1 = [2] then some ⟨[2] ++ k.st.drop 1, k.cl⟩ else none) := rfl
  have HC := fun W => takes_any (stS k.st) (stS [2]) (stS [2]) (by omega) (by decide) (by decide) W
  unfold knV
  clear h1 h2
  by_cases hs : k.st.take 1 = [2]
  · rw [HT.out, if_pos hs] at HC
    have HR2 : Hid _ := HR.out.trans (if_pos hs)
    clear HT HR
    unfold takesV at HC
    simp only [] at HC
    go_enter Tryd.func14, Tryd.ntmps14
    go_wp2_with fail
    refine (HC _).mono ?_
    rintro e w1 ⟨rfl, rfl⟩
    clear HC
    go_wp2
    refine bodyPost_ret (v := .tuple #[.agg #[.bool true, S (stS ([2] ++ k.st.drop 1)), S (clS k.cl)], .bool true]) (by simp [results, Tryd.results14, go_sem]) rfl ?_
    exact ⟨by rw [HR2.out]; rfl, below_two _ _ _⟩
  · rw [HT.out, if_neg hs] at HC
    have HR2 : Hid _ := HR.out.trans (if_neg hs)
    clear HT HR
    unfold takesV at HC
    simp only [] at HC
    go_enter Tryd.func14, Tryd.ntmps14
    go_wp2_with fail
    refine (HC _).mono ?_
    rintro e w1 ⟨rfl, rfl⟩
    clear HC
    go_wp2
    refine bodyPost_ret (v := .tuple #[.agg #[.bool true, S [], S (clS k.cl)], .bool false]) (by simp [results, Tryd.results14, go_sem]) rfl ?_
    exact ⟨by rw [HR2.out]; exact ⟨_, _, rfl⟩, below_two _ _ _⟩
set_option maxHeartbeats 4000000 in
theorem does13 {b : List UInt8} {a n : Nat} {k : Kn} (hb : b.length ≤ 4000) (hk : k.st.length ≤ 100) (hc : k.cl.length ≤ 255) (h1 : Tys1 k.st) (h2 : Tys k.cl) (ha : a < (ByteArray.mk b.toArray).size) (hop : ((ByteArray.mk b.toArray)[a]).toNat = 13) (w : World) : Calls Tryd.prog 14 #[S b, .int .i64 a, knV k] w fun e w' => DoesAns (doesK 13 n k) e ∧ Below w.heap.size w w' := by
  have ha' : a < b.length := ha
  have hl := stS_len k.st
  have HT : Hid (takesS (stS k.st) (stS [2, 2]) (stS [2]) = if k.st.take 2 = [2, 2] then some (stS ([2] ++ k.st.drop 2)) else none) := takes_st2 (want := [2, 2]) (more := [2]) h1 (by intro t ht; simp at ht; subst ht; decide)
  have HR : Hid (doesK 13 n k = if k.st.take 2 = [2, 2] then some ⟨[2] ++ k.st.drop 2, k.cl⟩ else none) := rfl
  have HC := fun W => takes_any (stS k.st) (stS [2, 2]) (stS [2]) (by omega) (by decide) (by decide) W
  unfold knV
  clear h1 h2
  by_cases hs : k.st.take 2 = [2, 2]
  · rw [HT.out, if_pos hs] at HC
    have HR2 : Hid _ := HR.out.trans (if_pos hs)
    clear HT HR
    unfold takesV at HC
    simp only [] at HC
    go_enter Tryd.func14, Tryd.ntmps14
    go_wp2_with fail
    refine (HC _).mono ?_
    rintro e w1 ⟨rfl, rfl⟩
    clear HC
    go_wp2
    refine bodyPost_ret (v := .tuple #[.agg #[.bool true, S (stS ([2] ++ k.st.drop 2)), S (clS k.cl)], .bool true]) (by simp [results, Tryd.results14, go_sem]) rfl ?_
    exact ⟨by rw [HR2.out]; rfl, below_two _ _ _⟩
  · rw [HT.out, if_neg hs] at HC
    have HR2 : Hid _ := HR.out.trans (if_neg hs)
    clear HT HR
    unfold takesV at HC
    simp only [] at HC
    go_enter Tryd.func14, Tryd.ntmps14
    go_wp2_with fail
    refine (HC _).mono ?_
    rintro e w1 ⟨rfl, rfl⟩
    clear HC
    go_wp2
    refine bodyPost_ret (v := .tuple #[.agg #[.bool true, S [], S (clS k.cl)], .bool false]) (by simp [results, Tryd.results14, go_sem]) rfl ?_
    exact ⟨by rw [HR2.out]; exact ⟨_, _, rfl⟩, below_two _ _ _⟩
set_option maxHeartbeats 4000000 in
theorem does14 {b : List UInt8} {a n : Nat} {k : Kn} (hb : b.length ≤ 4000) (hk : k.st.length ≤ 100) (hc : k.cl.length ≤ 255) (h1 : Tys1 k.st) (h2 : Tys k.cl) (ha : a < (ByteArray.mk b.toArray).size) (hop : ((ByteArray.mk b.toArray)[a]).toNat = 14) (w : World) : Calls Tryd.prog 14 #[S b, .int .i64 a, knV k] w fun e w' => DoesAns (doesK 14 n k) e ∧ Below w.heap.size w w' := by
  have ha' : a < b.length := ha
  have hl := stS_len k.st
  have HT : Hid (takesS (stS k.st) (stS [2, 2]) (stS [2]) = if k.st.take 2 = [2, 2] then some (stS ([2] ++ k.st.drop 2)) else none) := takes_st2 (want := [2, 2]) (more := [2]) h1 (by intro t ht; simp at ht; subst ht; decide)
  have HR : Hid (doesK 14 n k = if k.st.take 2 = [2, 2] then some ⟨[2] ++ k.st.drop 2, k.cl⟩ else none) := rfl
  have HC := fun W => takes_any (stS k.st) (stS [2, 2]) (stS [2]) (by omega) (by decide) (by decide) W
  unfold knV
  clear h1 h2
  by_cases hs : k.st.take 2 = [2, 2]
  · rw [HT.out, if_pos hs] at HC
    have HR2 : Hid _ := HR.out.trans (if_pos hs)
    clear HT HR
    unfold takesV at HC
    simp only [] at HC
    go_enter Tryd.func14, Tryd.ntmps14
    go_wp2_with fail
    refine (HC _).mono ?_
    rintro e w1 ⟨rfl, rfl⟩
    clear HC
    go_wp2
    refine bodyPost_ret (v := .tuple #[.agg #[.bool true, S (stS ([2] ++ k.st.drop 2)), S (clS k.cl)], .bool true]) (by simp [results, Tryd.results14, go_sem]) rfl ?_
    exact ⟨by rw [HR2.out]; rfl, below_two _ _ _⟩
  · rw [HT.out, if_neg hs] at HC
    have HR2 : Hid _ := HR.out.trans (if_neg hs)
    clear HT HR
    unfold takesV at HC
    simp only [] at HC
    go_enter Tryd.func14, Tryd.ntmps14
    go_wp2_with fail
    refine (HC _).mono ?_
    rintro e w1 ⟨rfl, rfl⟩
    clear HC
    go_wp2
    refine bodyPost_ret (v := .tuple #[.agg #[.bool true, S [], S (clS k.cl)], .bool false]) (by simp [results, Tryd.results14, go_sem]) rfl ?_
    exact ⟨by rw [HR2.out]; exact ⟨_, _, rfl⟩, below_two _ _ _⟩
set_option maxHeartbeats 4000000 in
theorem does15 {b : List UInt8} {a n : Nat} {k : Kn} (hb : b.length ≤ 4000) (hk : k.st.length ≤ 100) (hc : k.cl.length ≤ 255) (h1 : Tys1 k.st) (h2 : Tys k.cl) (ha : a < (ByteArray.mk b.toArray).size) (hop : ((ByteArray.mk b.toArray)[a]).toNat = 15) (w : World) : Calls Tryd.prog 14 #[S b, .int .i64 a, knV k] w fun e w' => DoesAns (doesK 15 n k) e ∧ Below w.heap.size w w' := by
  have ha' : a < b.length := ha
  have hl := stS_len k.st
  have HT : Hid (takesS (stS k.st) (stS [2]) (stS []) = if k.st.take 1 = [2] then some (stS ([] ++ k.st.drop 1)) else none) := takes_st2 (want := [2]) (more := []) h1 (by intro t ht; simp at ht; subst ht; decide)
  have HR : Hid (doesK 15 n k = if k.st.take 1 = [2] then some ⟨[] ++ k.st.drop 1, k.cl⟩ else none) := rfl
  have HC := fun W => takes_any (stS k.st) (stS [2]) (stS []) (by omega) (by decide) (by decide) W
  unfold knV
  clear h1 h2
  by_cases hs : k.st.take 1 = [2]
  · rw [HT.out, if_pos hs] at HC
    have HR2 : Hid _ := HR.out.trans (if_pos hs)
    clear HT HR
    unfold takesV at HC
    simp only [] at HC
    go_enter Tryd.func14, Tryd.ntmps14
    go_wp2_with fail
    refine (HC _).mono ?_
    rintro e w1 ⟨rfl, rfl⟩
    clear HC
    go_wp2
    refine bodyPost_ret (v := .tuple #[.agg #[.bool true, S (stS ([] ++ k.st.drop 1)), S (clS k.cl)], .bool true]) (by simp [results, Tryd.results14, go_sem]) rfl ?_
    exact ⟨by rw [HR2.out]; rfl, below_two _ _ _⟩
  · rw [HT.out, if_neg hs] at HC
    have HR2 : Hid _ := HR.out.trans (if_neg hs)
    clear HT HR
    unfold takesV at HC
    simp only [] at HC
    go_enter Tryd.func14, Tryd.ntmps14
    go_wp2_with fail
    refine (HC _).mono ?_
    rintro e w1 ⟨rfl, rfl⟩
    clear HC
    go_wp2
    refine bodyPost_ret (v := .tuple #[.agg #[.bool true, S [], S (clS k.cl)], .bool false]) (by simp [results, Tryd.results14, go_sem]) rfl ?_
    exact ⟨by rw [HR2.out]; exact ⟨_, _, rfl⟩, below_two _ _ _⟩
end Go.Proofs.YtfkdailfcmnjlaaDoor
