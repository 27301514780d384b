/-
  The document's 'does': fields, cells, the sign '='. Rows of numbers in memory; what is touched. A stack of types: Push, Pop, Height. What is known at a place, in memory: a stack and cells. Zeros are appended tw a row of numbers. What is learnt of a cell.
-/
import Derived.Test.YtfkdailfcmnjlaaDoorJA
import Derived.Test.YtfkdailfcmnjlaaDoorJB
import Derived.Test.YtfkdailfcmnjlaaDoorJC
import Derived.Test.YtfkdailfcmnjlaaDoorJD
import Derived.Test.YtfkdailfcmnjlaaDoorJE
import Derived.Deep.RegionHeldLaw
import Derived.WalkSmall
import Derived.Lib.AppendZerosOnto
set_option linter.unusedVariables false
set_option linter.unusedSimpArgs false
namespace Go.Proofs.YtfkdailfcmnjlaaDoor
open Go Go.RowKit
set_option maxRecDepth 100000
attribute [local go_sem ↓] Go.wp_at_zero Go.wp_at_succ

theorem field_letter {n : Nat} (h : n ≤ 8) : (BA [110, 110, 110, 110, 109, 109, 109, 116, 116]).extract n (n + 1) = BA [tyC (fieldTy n)] := by
  have e : n = 0 ∨ n = 1 ∨ n = 2 ∨ n = 3 ∨ n = 4 ∨ n = 5 ∨ n = 6 ∨ n = 7 ∨ n = 8 := by omega
  rcases e with rfl | rfl | rfl | rfl | rfl | rfl | rfl | rfl | rfl <;> rfl
theorem ba_at (l : List UInt8) (i : Nat) (h : i < (ByteArray.mk l.toArray).size) : ((ByteArray.mk l.toArray)[i]).toNat = (l.getD i 0).toNat := by
  have h' : i < l.length := h
  show (l.toArray[i]).toNat = _
  rw [List.getD_eq_getElem?_getD, List.getElem?_eq_getElem h']; rfl
theorem cl_set (cl : List Nat) {n : Nat} (h : n < cl.length) (t : Nat) : clS (cl.set n t) = cut (clS cl) 0 n ++ [tyC t] ++ cut (clS cl) (n + 1) cl.length := by
  have e : cut (clS cl) (n + 1) cl.length = (clS cl).drop (n + 1) := by unfold cut; exact List.take_of_length_le (by rw [List.length_drop, clS_len]; omega)
  rw [e]
  unfold cut clS
  rw [List.set_eq_take_append_cons_drop, if_pos h]
  simp [List.map_take, List.map_drop]
theorem st_cut0 (t : Nat) (r : List Nat) : cut (stS (t :: r)) 0 r.length = stS r := by
  unfold cut; rw [stS_cons]; simp [stS_len, List.take_append_of_le_length]
theorem st_cut1 (t : Nat) (r : List Nat) : cut (stS (t :: r)) r.length (r.length + 1) = [tyC t] := by
  unfold cut; rw [stS_cons, List.drop_append_of_le_length (by rw [stS_len]; omega), List.drop_of_length_le (by rw [stS_len]; omega)]; simp
theorem cl_cut1 (cl : List Nat) {n : Nat} (h : n < cl.length) : cut (clS cl) n (n + 1) = [tyC (cl.getD n 0)] := by
  have h' : n < (clS cl).length := by rw [clS_len]; exact h
  unfold cut; rw [List.drop_eq_getElem_cons h']
  simp [clS, List.getD_eq_getElem?_getD, List.getElem?_eq_getElem h]
theorem cl_getD (cl : List Nat) {n : Nat} (h : n < cl.length) : (clS cl).getD n 0 = tyC (cl.getD n 0) := by
  simp [clS, List.getD_eq_getElem?_getD, List.getElem?_eq_getElem h]
theorem st_top (t : Nat) (r : List Nat) : (stS (t :: r)).getD r.length 0 = tyC t := by
  rw [stS_cons, List.getD_eq_getElem?_getD, List.getElem?_append_right (by rw [stS_len]; omega), stS_len]; simp
theorem st_sec (t u : Nat) (r : List Nat) : (stS (t :: u :: r)).getD r.length 0 = tyC u := by
  rw [stS_cons, stS_cons, List.getD_eq_getElem?_getD, List.getElem?_append_left (by rw [List.length_append, stS_len]; simp), List.getElem?_append_right (by rw [stS_len]; omega), stS_len]; simp
theorem tyC_zero {t : Nat} (h : t < 4) : tyC t = 45 ↔ t = 0 := by
  have e : t = 0 ∨ t = 1 ∨ t = 2 ∨ t = 3 := by omega
  rcases e with rfl | rfl | rfl | rfl <;> decide
theorem Tys.getD {l : List Nat} (h : Tys l) (n : Nat) : l.getD n 0 < 4 := by
  rw [List.getD_eq_getElem?_getD]
  cases e : l[n]? with
  | none => decide
  | some v => exact h v (List.mem_of_getElem? e)
set_option maxHeartbeats 4000000 in
theorem does4 {b : List UInt8} {a n : Nat} {k : Kn} (hb : b.length ≤ 4000) (hk : k.st.length ≤ 100) (hc : k.cl.length ≤ 255) (h1 : Tys1 k.st) (h2 : Tys k.cl) (ha : a < (ByteArray.mk b.toArray).size) (hop : ((ByteArray.mk b.toArray)[a]).toNat = 4) (ha1 : a + 1 < (ByteArray.mk b.toArray).size) (hn : ((ByteArray.mk b.toArray)[a + 1]).toNat = n) (hn8 : n ≤ 8) (w : World) : Calls Tryd.prog 14 #[S b, .int .i64 a, knV k] w fun e w' => DoesAns (doesK 4 n k) e ∧ Below w.heap.size w w' := by
  have ha' : a < b.length := ha
  have hl := stS_len k.st
  unfold knV
  clear h1 h2
  have hn9 : (n : Int) + 1 ≤ 9 := by omega
  have hw : IntKind.u8.wrap ((n : Int) + 1) = n + 1 := by unfold IntKind.wrap; simp [IntKind.signed, IntKind.bits]; omega
  have q2 : a + 1 < b.length := ha1
  have q0 : (0 : Int) ≤ (a : Int) + 1 := by omega
  have q1 : (a : Int) + 1 < (b.length : Int) := by omega
  have q3 : (0 : Int) ≤ (a : Int) + 1 ∧ (a : Int) + 1 < (b.length : Int) := ⟨q0, q1⟩
  have HF : Hid _ := field_letter hn8
  have HR : Hid (doesK 4 n k = some ⟨fieldTy n :: k.st, k.cl⟩ ∧ S (stS (fieldTy n :: k.st)) = Value.string (BA (stS k.st) ++ BA [tyC (fieldTy n)])) := ⟨rfl, by rw [stS_cons, app_ba]⟩
  go_enter Tryd.func14, Tryd.ntmps14
  go_wp2_with fail
  go_region
  go_wp2
  refine bodyPost_ret (v := .tuple #[.agg #[.bool true, .string (BA (stS k.st) ++ (BA [110, 110, 110, 110, 109, 109, 109, 116, 116]).extract n (n + 1)), S (clS k.cl)], .bool true]) (by simp [results, Tryd.results14, go_sem]) rfl ?_
  exact ⟨by rw [HR.out.1]; show _ = _; rw [knV, HR.out.2, ← HF.out], (below_two _ _ _).drew⟩
set_option maxHeartbeats 4000000 in
theorem does5 {b : List UInt8} {a n : Nat} {k : Kn} (hb : b.length ≤ 4000) (hk : k.st.length ≤ 100) (hc : k.cl.length ≤ 255) (h1 : Tys1 k.st) (h2 : Tys k.cl) (ha : a < (ByteArray.mk b.toArray).size) (hop : ((ByteArray.mk b.toArray)[a]).toNat = 5) (ha1 : a + 1 < (ByteArray.mk b.toArray).size) (hn : ((ByteArray.mk b.toArray)[a + 1]).toNat = n) (hnc : n < k.cl.length) (w : World) : Calls Tryd.prog 14 #[S b, .int .i64 a, knV k] w fun e w' => DoesAns (doesK 5 n k) e ∧ Below w.heap.size w w' := by
  have ha' : a < b.length := ha
  obtain ⟨st, cl⟩ := k
  simp only [] at *
  have q2 : a + 1 < b.length := ha1
  have q0 : (0 : Int) ≤ (a : Int) + 1 := by omega
  have q1 : (a : Int) + 1 < (b.length : Int) := by omega
  have q3 : (0 : Int) ≤ (a : Int) + 1 ∧ (a : Int) + 1 < (b.length : Int) := ⟨q0, q1⟩
  have q4 : (0 : Int) ≤ (n : Int) ∧ (n : Int) ≤ (cl.length : Int) := by omega
  have q7 : (0 : Int) ≤ (n : Int) + 1 ∧ (n : Int) + 1 ≤ (cl.length : Int) := by omega
  cases st with
  | nil =>
    have hl := stS_len []
    have HR : Hid (doesK 5 n ⟨[], cl⟩ = none) := rfl
    unfold knV
    clear h1 h2
    go_enter Tryd.func14, Tryd.ntmps14
    go_wp2
    refine bodyPost_ret (v := .tuple #[.agg #[.bool true, S (stS []), S (clS cl)], .bool false]) (by simp [results, Tryd.results14, go_sem]) rfl ?_
    exact ⟨by rw [HR.out]; exact ⟨_, _, rfl⟩, below_two _ _ _⟩
  | cons t r =>
    have hl : (stS (t :: r)).length = r.length + 1 := stS_len (t :: r)
    have hl2 := clS_len cl
    have hk' : r.length + 1 ≤ 100 := hk
    have q5 : ((r.length : Int) + 1 == 0) = false := by simp; omega
    have q6 : (0 : Int) ≤ (r.length : Int) + 1 - 1 ∧ (r.length : Int) + 1 - 1 ≤ (r.length : Int) + 1 := by omega
    have q8 : (0 : Int) ≤ (r.length : Int) ∧ (r.length : Int) ≤ (r.length : Int) + 1 := by omega
    have HR : Hid (doesK 5 n ⟨t :: r, cl⟩ = some ⟨r, cl.set n t⟩ ∧ S (stS r) = .string ((BA (stS (t :: r))).extract 0 r.length) ∧ S (clS (cl.set n t)) = .string ((BA (clS cl)).extract 0 n ++ (BA (stS (t :: r))).extract r.length (r.length + 1) ++ (BA (clS cl)).extract (n + 1) cl.length)) := by
      refine ⟨rfl, ?_, ?_⟩
      · rw [cut_ex, st_cut0]
      · rw [cut_ex, cut_ex, cut_ex, app_ba, app_ba, st_cut1, cl_set cl hnc]
    unfold knV
    clear h1 h2 hk
    simp only []
    go_enter Tryd.func14, Tryd.ntmps14
    go_wp2_with fail
    go_region
    go_wp2
    refine bodyPost_ret (v := .tuple #[.agg #[.bool true, .string ((BA (stS (t :: r))).extract 0 r.length), .string ((BA (clS cl)).extract 0 n ++ (BA (stS (t :: r))).extract r.length (r.length + 1) ++ (BA (clS cl)).extract (n + 1) cl.length)], .bool true]) (by simp [results, Tryd.results14, go_sem]) rfl ?_
    exact ⟨by rw [HR.out.1]; show _ = _; rw [knV, HR.out.2.1, HR.out.2.2], (below_two _ _ _).drew⟩
set_option maxHeartbeats 4000000 in
theorem does6 {b : List UInt8} {a n : Nat} {k : Kn} (hb : b.length ≤ 4000) (hk : k.st.length ≤ 100) (hc : k.cl.length ≤ 255) (h1 : Tys1 k.st) (h2 : Tys k.cl) (ha : a < (ByteArray.mk b.toArray).size) (hop : ((ByteArray.mk b.toArray)[a]).toNat = 6) (ha1 : a + 1 < (ByteArray.mk b.toArray).size) (hn : ((ByteArray.mk b.toArray)[a + 1]).toNat = n) (hnc : n < k.cl.length) (w : World) : Calls Tryd.prog 14 #[S b, .int .i64 a, knV k] w fun e w' => DoesAns (doesK 6 n k) e ∧ Below w.heap.size w w' := by
  have ha' : a < b.length := ha
  have hl := stS_len k.st
  have hl2 := clS_len k.cl
  have q2 : a + 1 < b.length := ha1
  have q0 : (0 : Int) ≤ (a : Int) + 1 := by omega
  have q1 : (a : Int) + 1 < (b.length : Int) := by omega
  have q3 : (0 : Int) ≤ (a : Int) + 1 ∧ (a : Int) + 1 < (b.length : Int) := ⟨q0, q1⟩
  have q4 : (0 : Int) ≤ (n : Int) ∧ (n : Int) ≤ (k.cl.length : Int) := by omega
  have q7 : (0 : Int) ≤ (n : Int) + 1 ∧ (n : Int) + 1 ≤ (k.cl.length : Int) := by omega
  have hsz : n < (ByteArray.mk (clS k.cl).toArray).size := by rw [← hl2] at hnc; exact hnc
  have hv := ba_at (clS k.cl) n hsz
  rw [cl_getD k.cl hnc] at hv
  have HS : Hid (S (stS (k.cl.getD n 0 :: k.st)) = .string (BA (stS k.st) ++ (BA (clS k.cl)).extract n (n + 1))) := by show _ = _; rw [cut_ex, app_ba, cl_cut1 k.cl hnc, stS_cons]
  have HR : Hid (doesK 6 n k = if k.cl.getD n 0 = 0 then none else some ⟨k.cl.getD n 0 :: k.st, k.cl⟩) := rfl
  have h4 := h2.getD n
  unfold knV
  by_cases h0 : k.cl.getD n 0 = 0
  · have HR2 : Hid _ := HR.out.trans (if_pos h0)
    rw [h0] at hv
    have hv' : ((ByteArray.mk (clS k.cl).toArray)[n]).toNat = 45 := hv
    clear h1 h2 HR hv h0 h4
    go_enter Tryd.func14, Tryd.ntmps14
    go_wp2_with fail
    go_region
    go_wp2
    refine bodyPost_ret (v := .tuple #[.agg #[.bool true, .string (BA (stS k.st) ++ (BA (clS k.cl)).extract n (n + 1)), S (clS k.cl)], .bool false]) (by simp [results, Tryd.results14, go_sem]) rfl ?_
    exact ⟨by rw [HR2.out]; exact ⟨_, _, rfl⟩, (below_two _ _ _).drew⟩
  · have HR2 : Hid _ := HR.out.trans (if_neg h0)
    have hne : tyC (k.cl.getD n 0) ≠ 45 := fun e => h0 ((tyC_zero h4).1 e)
    have hv' : ((((ByteArray.mk (clS k.cl).toArray)[n]).toNat : Int) != 45) = true := by
      rw [hv]
      have : (tyC (k.cl.getD n 0)).toNat ≠ 45 := fun e => hne (UInt8.toNat_inj.1 e)
      generalize (tyC (k.cl.getD n 0)).toNat = z at *
      simp; omega
    clear h1 h2 HR hv h0 h4 hne
    go_enter Tryd.func14, Tryd.ntmps14
    go_wp2_with fail
    go_region
    go_wp2
    refine bodyPost_ret (v := .tuple #[.agg #[.bool true, .string (BA (stS k.st) ++ (BA (clS k.cl)).extract n (n + 1)), S (clS k.cl)], .bool true]) (by simp [results, Tryd.results14, go_sem]) rfl ?_
    exact ⟨by rw [HR2.out]; show _ = _; rw [knV, HS.out], (below_two _ _ _).drew⟩
set_option maxHeartbeats 4000000 in
theorem does9 {b : List UInt8} {a n : Nat} {k : Kn} (hb : b.length ≤ 4000) (hk : k.st.length ≤ 100) (hc : k.cl.length ≤ 255) (h1 : Tys1 k.st) (h2 : Tys k.cl) (ha : a < (ByteArray.mk b.toArray).size) (hop : ((ByteArray.mk b.toArray)[a]).toNat = 9) (w : World) : Calls Tryd.prog 14 #[S b, .int .i64 a, knV k] w fun e w' => DoesAns (doesK 9 n k) e ∧ Below w.heap.size w w' := by
  have ha' : a < b.length := ha
  obtain ⟨st, cl⟩ := k
  simp only [] at *
  have hl2 := clS_len cl
  match st, hk, h1 with
  | [], _, _ =>
    have hl : (stS []).length = 0 := rfl
    have HR : Hid (doesK 9 n ⟨[], cl⟩ = none) := rfl
    unfold knV
    clear h2
    go_enter Tryd.func14, Tryd.ntmps14
    go_wp2_with fail
    go_region
    go_wp2
    refine bodyPost_ret (v := .tuple #[.agg #[.bool true, S (stS []), S (clS cl)], .bool false]) (by simp [results, Tryd.results14, go_sem]) rfl ?_
    exact ⟨by rw [HR.out]; exact ⟨_, _, rfl⟩, (below_two _ _ _).drew⟩
  | [t], _, _ =>
    have hl : (stS [t]).length = 1 := rfl
    have HR : Hid (doesK 9 n ⟨[t], cl⟩ = none) := rfl
    unfold knV
    clear h2
    go_enter Tryd.func14, Tryd.ntmps14
    go_wp2_with fail
    go_region
    go_wp2
    refine bodyPost_ret (v := .tuple #[.agg #[.bool true, S (stS [t]), S (clS cl)], .bool false]) (by simp [results, Tryd.results14, go_sem]) rfl ?_
    exact ⟨by rw [HR.out]; exact ⟨_, _, rfl⟩, (below_two _ _ _).drew⟩
  | t :: u :: r, hk, h1 =>
    have hl : (stS (t :: u :: r)).length = r.length + 1 + 1 := stS_len _
    have hk' : r.length + 1 + 1 ≤ 100 := hk
    have hs1 : r.length + 1 < (ByteArray.mk (stS (t :: u :: r)).toArray).size := by show r.length + 1 < (stS (t :: u :: r)).length; omega
    have hs2 : r.length < (ByteArray.mk (stS (t :: u :: r)).toArray).size := by show r.length < (stS (t :: u :: r)).length; omega
    have v1 := ba_at (stS (t :: u :: r)) (r.length + 1) hs1
    have v2 := ba_at (stS (t :: u :: r)) r.length hs2
    have et : (stS (t :: u :: r)).getD (r.length + 1) 0 = tyC t := st_top t (u :: r)
    rw [et] at v1
    rw [st_sec t u r] at v2
    have q1 : (0 : Int) ≤ (r.length : Int) + 1 + 1 - 1 ∧ (r.length : Int) + 1 + 1 - 1 < (r.length : Int) + 1 + 1 := by omega
    have q2 : (0 : Int) ≤ (r.length : Int) + 1 + 1 - 2 ∧ (r.length : Int) + 1 + 1 - 2 < (r.length : Int) + 1 + 1 := by omega
    have q3 : (2 : Int) ≤ (r.length : Int) + 1 + 1 := by omega
    have q4 : (0 : Int) ≤ (r.length : Int) + 1 + 1 - 2 ∧ (r.length : Int) + 1 + 1 - 2 ≤ (r.length : Int) + 1 + 1 := by omega
    have HR : Hid (doesK 9 n ⟨t :: u :: r, cl⟩ = if t = u then some ⟨2 :: r, cl⟩ else none) := rfl
    have HS : Hid (S (stS (2 :: r)) = .string ((BA (stS (t :: u :: r))).extract 0 r.length ++ BA [116])) := by
      show _ = _
      rw [cut_ex, app_ba, stS_cons]
      unfold cut
      rw [stS_cons, stS_cons, List.append_assoc]
      simp [stS_len]; rfl
    by_cases e : t = u
    · subst e
      have HR2 : Hid _ := HR.out.trans (if_pos rfl)
      unfold knV
      clear h1 h2 HR hk
      generalize (tyC t).toNat = z at *
      simp only []
      go_enter Tryd.func14, Tryd.ntmps14
      go_wp2_with fail
      go_region
      go_wp2
      refine bodyPost_ret (v := .tuple #[.agg #[.bool true, .string ((BA (stS (t :: t :: r))).extract 0 r.length ++ BA [116]), S (clS cl)], .bool true]) (by simp [results, Tryd.results14, go_sem]) rfl ?_
      exact ⟨by rw [HR2.out]; show _ = _; rw [knV, HS.out], (below_two _ _ _).drew⟩
    · have HR2 : Hid _ := HR.out.trans (if_neg e)
      have hne : ((((tyC t).toNat : Int)) == ((tyC u).toNat : Int)) = false := by
        have : (tyC t).toNat ≠ (tyC u).toNat := fun e' => e (tyC_inj (h1 t (by simp)).2 (h1 u (by simp)).2 (UInt8.toNat_inj.1 e'))
        simp; omega
      unfold knV
      clear h1 h2 HR hk e HS
      generalize (tyC t).toNat = z at *
      generalize (tyC u).toNat = y at *
      simp only []
      go_enter Tryd.func14, Tryd.ntmps14
      go_wp2_with fail
      go_region
      go_wp2
      refine bodyPost_ret (v := .tuple #[.agg #[.bool true, S (stS (t :: u :: r)), S (clS cl)], .bool false]) (by simp [results, Tryd.results14, go_sem]) rfl ?_
      exact ⟨by rw [HR2.out]; exact ⟨_, _, rfl⟩, (below_two _ _ _).drew⟩
end Go.Proofs.YtfkdailfcmnjlaaDoor

namespace Go.Proofs.YtfkdailfcmnjlaaDoor
open Go Go.RowKit
set_option maxRecDepth 100000
attribute [local go_sem ↓] Go.wp_at_zero Go.wp_at_succ

/-- All but some blocks is as it was. -/
structure Only (F : Nat → Prop) (w w' : World) : Prop where
  os : w'.os = w.os
  tape : w'.tape = w.tape
  output : w'.output = w.output
  size : w.heap.size ≤ w'.heap.size
  block : ∀ k, k < w.heap.size → ¬ F k → w'.heap[k]? = w.heap[k]?
theorem Only.refl (F : Nat → Prop) (w : World) : Only F w w := ⟨rfl, rfl, rfl, Nat.le_refl _, fun _ _ _ => rfl⟩
theorem Only.trans {F G H : Nat → Prop} {a b c : World} (h : Only F a b) (k : Only G b c) (hF : ∀ i, i < a.heap.size → F i → H i) (hG : ∀ i, i < a.heap.size → G i → H i) : Only H a c :=
  ⟨k.os.trans h.os, k.tape.trans h.tape, k.output.trans h.output, Nat.le_trans h.size k.size, fun i hi hn => (k.block i (Nat.lt_of_lt_of_le hi h.size) (fun g => hn (hG i hi g))).trans (h.block i hi (fun f => hn (hF i hi f)))⟩
theorem Only.weak {F G : Nat → Prop} {a b : World} (h : Only F a b) (hF : ∀ i, i < a.heap.size → F i → G i) : Only G a b :=
  ⟨h.os, h.tape, h.output, h.size, fun i hi hn => h.block i hi (fun f => hn (hF i hi f))⟩
theorem Only.drew {F : Nat → Prop} {a b : World} (h : Only F a b) : Only F a b.drew := ⟨h.os, h.tape, h.output, h.size, h.block⟩
theorem Only.of_drew {F : Nat → Prop} {a b : World} (h : Only F a.drew b) : Only F a b := ⟨h.os, h.tape, h.output, h.size, h.block⟩
theorem Only.alloc {F : Nat → Prop} {a b : World} (h : Only F a b) (o : Obj) : Only F a (b.alloc o) :=
  ⟨h.os, h.tape, h.output, by have := h.size; simp; omega, fun i hi hn => (Below.heap_alloc b o i (Nat.lt_of_lt_of_le hi h.size)).trans (h.block i hi hn)⟩
theorem Only.setCell {F : Nat → Prop} {a b : World} (h : Only F a b) {p o : Nat} (hp : F p ∨ a.heap.size ≤ p) (v : Value) : Only F a (b.setCell ⟨p, o, none⟩ v) :=
  ⟨h.os, h.tape, h.output, by simpa using h.size, fun i hi hn => (Below.heap_setCell _ _ _ _ (by
    intro e; simp only [] at e; subst e; rcases hp with hp | hp
    · exact hn hp
    · omega)).trans (h.block i hi hn)⟩
theorem Only.grown {F : Nat → Prop} {a b c : World} (h : Only F a b) {row : Option Nat} (hg : b.grownBy c row) (hr : ∀ k, row = some k → F k ∨ a.heap.size ≤ k) : Only F a c :=
  ⟨hg.os.trans h.os, hg.tape.trans h.tape, hg.output.trans h.output, Nat.le_trans h.size hg.size, fun i hi hn => (hg.block i (Nat.lt_of_lt_of_le hi h.size) (fun e => by
    rcases hr i e.symm with hp | hp
    · exact hn hp
    · omega)).trans (h.block i hi hn)⟩
theorem Only.below {F : Nat → Prop} {a b : World} (h : Only F a b) {B : Nat} (hB : B ≤ a.heap.size) (hF : ∀ k, k < a.heap.size → F k → B ≤ k) : Below B a b :=
  ⟨h.os, h.tape, h.output, h.size, fun i hi => h.block i (by omega) (fun f => by have := hF i (by omega) f; omega)⟩
theorem Only.of_below {F : Nat → Prop} {a b : World} (h : Below a.heap.size a b) : Only F a b := ⟨h.os, h.tape, h.output, h.size, fun i hi _ => h.block i hi⟩
/-- A row of numbers that a value has for itself. -/
def IR (w : World) (e : TypeId) (v : Value) (l : List Int) : Prop := w.ownsRow 0 e 1 v l.length (l.map (Value.int .i64))
theorem IR.nil (w : World) (e : TypeId) : IR w e (.slice none 0 0) [] := World.ownsRow_nil _ _ _ _
theorem IR.sl {w : World} {e : TypeId} {v : Value} {l : List Int} (h : IR w e v l) : ∃ a cap, v = .slice a l.length cap := by
  obtain ⟨hl, h⟩ := h
  rcases h with ⟨rfl, h0⟩ | ⟨g, cap, cur, rfl, hb, hg, h1, h2, h3, h4⟩
  · exact ⟨none, 0, by rw [h0]⟩
  · exact ⟨_, _, rfl⟩
theorem IR.form {w : World} {e : TypeId} {v : Value} {l : List Int} (h : IR w e v l) (h0 : 0 < l.length) : ∃ g cap, v = .slice (some ⟨g, 0, none⟩) l.length cap ∧ g < w.heap.size := by
  obtain ⟨g, cap, e, _, hlt⟩ := World.ownsRow.form h h0
  exact ⟨g, cap, e, hlt⟩
theorem IR.cap {w : World} {e : TypeId} {g n cap : Nat} {l : List Int} (h : IR w e (.slice (some ⟨g, 0, none⟩) n cap) l) : l.length ≤ cap := by
  obtain ⟨_, h⟩ := h
  rcases h with ⟨h, _⟩ | ⟨g', cap', cur, h, h1, h2, h3, _⟩
  · simp at h
  · simp only [Value.slice.injEq, Option.some.injEq, Addr.mk.injEq, and_true, true_and] at h
    omega
theorem IR.cell {w : World} {e : TypeId} {g n cap : Nat} {l : List Int} (h : IR w e (.slice (some ⟨g, 0, none⟩) n cap) l) {k : Nat} (hk : k < l.length) : w.cell? ⟨g, k, none⟩ = some (.int .i64 (l.getD k 0)) := by
  have hn : n = l.length := by obtain ⟨a, c, e⟩ := h.sl; simp at e; exact e.2.1
  subst hn
  rw [World.ownsRow.cellAt h k (by omega)]
  simp [List.getD_eq_getElem?_getD, List.getElem?_eq_getElem hk]
theorem IR.frz {w : World} {e : TypeId} {g n cap : Nat} {l : List Int} (h : IR w e (.slice (some ⟨g, 0, none⟩) n cap) l) (k : Nat) : w.frozen? ⟨g, k, none⟩ = false := by
  have hn : n = l.length := by obtain ⟨a, c, e⟩ := h.sl; simp at e; exact e.2.1
  subst hn
  exact World.ownsRow.frozenAt h k
theorem IR.only {w w' : World} {e : TypeId} {v : Value} {l : List Int} (h : IR w e v l) {F : Nat → Prop} (ho : Only F w w') (hn : ∀ g, v.ownBlock = some g → ¬ F g) : IR w' e v l :=
  ownsRow_of_block h (fun k hk => ho.block k (h.lt k hk).2 (hn k hk))
theorem IR.ne {w : World} {e ty : TypeId} {v : Value} {l : List Int} (h : IR w e v l) {p : Nat} {cs : Array Value} {z : Nat × Nat} (hp : w.heap[p]? = some (.cells cs ty z)) (hty : ty ≠ e) : v.ownBlock ≠ some p := fun hb => by
  obtain ⟨cs', h'⟩ := ownsRow_type h hb
  rw [hp] at h'; simp at h'; exact hty h'.2.1
theorem IR.pop {w : World} {e : TypeId} {g cap : Nat} {l : List Int} {x : Int} (h : IR w e (.slice (some ⟨g, 0, none⟩) (l.length + 1) cap) (l ++ [x])) : IR w e (.slice (some ⟨g, 0, none⟩) l.length cap) l := by
  unfold IR at *
  rw [List.length_append, List.map_append] at h
  exact ownsRow_pop (by simp) h
theorem IR.set {w : World} {e : TypeId} {g cap : Nat} {l : List Int} (h : IR w e (.slice (some ⟨g, 0, none⟩) l.length cap) l) {j : Nat} (hj : j < l.length) (u : Int) : IR (w.setCell ⟨g, j, none⟩ (.int .i64 u)) e (.slice (some ⟨g, 0, none⟩) l.length cap) (l.set j u) := by
  obtain ⟨hl, h⟩ := h
  refine ⟨by simp, ?_⟩
  rcases h with ⟨h, _⟩ | ⟨g', cap', cur, h, h1, h2, h3, h4, h5, h6⟩
  · simp at h
  · simp only [Value.slice.injEq, Option.some.injEq, Addr.mk.injEq, and_true, true_and] at h
    obtain ⟨rfl, rfl⟩ := h
    refine .inr ⟨g, cap, cur.setIfInBounds j (.int .i64 u), by simp, h1, heap_setCell_same w g j _ _ _ h2, by simpa using h3, h4, by simpa using h5, ?_⟩
    rw [List.map_set, ← h6]
    simp [List.take_set]
end Go.Proofs.YtfkdailfcmnjlaaDoor

namespace Go.Proofs.YtfkdailfcmnjlaaDoor
open Go Go.RowKit
set_option maxRecDepth 100000
attribute [local go_sem ↓] Go.wp_at_zero Go.wp_at_succ

theorem info_TType : (Tryd.prog.info? 121).map (fun i => (i.zero, i.size, i.bytes)) = some (some (.int .i64 0), 1, 8) := by kernel_rfl
set_option maxHeartbeats 2000000 in
theorem tpush_any {p : Nat} {cs : Array Value} {ty : TypeId} {v : Value} {l : List Int} (x : Int) {w : World} (hp : w.heap[p]? = some (.cells cs ty (0, 0))) (h0 : cs[0]? = some v) (hr : IR w 121 v l) (hty : ty ≠ 121) (hl : l.length ≤ 5000) :
    Calls Tryd.prog 70 #[.pointer (some ⟨p, 0, none⟩), .int .i64 x] w fun e w' => e = .returned (.tuple #[]) ∧ ∃ v', w'.heap[p]? = some (.cells (cs.setIfInBounds 0 v') ty (0, 0)) ∧ IR w' 121 v' (l ++ [x]) ∧ Only (fun b => b = p ∨ v.ownBlock = some b) w w' ∧ ∀ b, v'.ownBlock = some b → v.ownBlock = some b ∨ w.heap.size ≤ b := by
  have hpc : w.cell? ⟨p, 0, none⟩ = some v := by rw [cell_of_row w p 0 _ _ _ hp]; exact h0
  have hpf : w.frozen? ⟨p, 0, none⟩ = false := by simp [World.frozen?, hp]
  have hlt := lt_of_get hp
  have hne := hr.ne hp hty
  obtain ⟨a, cap, rfl⟩ := hr.sl
  obtain ⟨i0, hi, hz⟩ := Option.map_eq_some_iff.1 info_TType
  simp only [Prod.mk.injEq] at hz
  obtain ⟨hz0, hz1, hz2⟩ := hz
  have HP : Hid _ := hp
  have HR : Hid _ := hr
  have HN : Hid _ := hne
  clear hp hr h0 hne
  go_enter Tryd.func70, Tryd.ntmps70
  go_wp2_with (
    at_builtin
    go_must (refine wpList_append_lies _ (by rfl) _ _ 115 (by rfl) 0 121 i0 (.int .i64 0) 1 8 Tryd.underlying115 hi hz0 hz1 hz2 (by rfl) (by decide) _ _ _ (by rfl) (HR.out.alloc _) ⟨w.heap.size, 0, none⟩ 1 1 [.int .i64 x] (by rfl) (by rfl) (World.news_of_block (heap_alloc_new w _)) (fun x hx => by simp at hx; rcases hx with rfl; rfl) (by decide) (by unfold maxLen; omega) (by omega) (by simp) _ rfl ?_)
    intro gg cap' w3 hown3 hgrow hat hlt3
    have e0 : w3.heap[p]? = w.heap[p]? := (hgrow.block _ (by simp; omega) (fun e => HN.out e.symm)).trans (Below.heap_alloc w _ _ hlt)
    have e1 := (World.cell?_of_block (a := ⟨p, 0, none⟩) e0).trans hpc
    have e2 := (World.frozen?_of_block (a := ⟨p, 0, none⟩) e0).trans hpf
    have HE0 : Hid _ := e0
    have HO3 : Hid _ := hown3
    have HG3 : Hid _ := hgrow
    clear e0 hown3 hgrow)
  go_end0
  refine ⟨rfl, .slice (some ⟨gg, 0, none⟩) (l.length + 1) cap', ?_, ?_, ?_, ?_⟩
  · rw [heap_setCell_same w3 p 0 _ _ _ (HE0.out.trans HP.out)]
  · have h1 : w3.ownsRow 0 121 1 (.slice (some ⟨gg, 0, none⟩) (l.length + 1) cap') (l.length + 1) (l.map (Value.int .i64) ++ [.int .i64 x]) := HO3.out
    have h2 := ownsRow_setCell_other h1 (a := ⟨p, 0, none⟩) (by
      intro e
      simp [Value.ownBlock] at e
      rcases hat with h | h
      · exact HN.out (by rw [h, e])
      · rw [World.size_alloc] at h; omega) (.slice (some ⟨gg, 0, none⟩) (l.length + 1) cap')
    unfold IR; simpa using h2
  · exact (((Only.refl _ w).alloc _).grown HG3.out (fun k hk => .inl (.inr hk))).setCell (.inl (.inl rfl)) _
  · intro b hb
    simp [Value.ownBlock] at hb
    subst hb
    rcases hat with h | h
    · exact .inl h
    · right; rw [h, World.size_alloc]; omega
theorem last_row {w : World} {e : TypeId} {g n cap : Nat} {r : List Int} {x : Int} (h : IR w e (.slice (some ⟨g, 0, none⟩) n cap) (r ++ [x])) : n = r.length + 1 ∧ w.cell? ⟨g, r.length, none⟩ = some (.int .i64 x) := by
  refine ⟨?_, ?_⟩
  · obtain ⟨a, c, e⟩ := h.sl; simp at e; exact e.2.1
  · rw [h.cell (by simp)]; simp
set_option maxHeartbeats 2000000 in
theorem tpop_any {p : Nat} {cs : Array Value} {ty : TypeId} {v : Value} {l : List Int} {w : World} (hp : w.heap[p]? = some (.cells cs ty (0, 0))) (h0 : cs[0]? = some v) (hr : IR w 121 v l) (hty : ty ≠ 121) (hl : l.length ≤ 5000) :
    Calls Tryd.prog 72 #[.pointer (some ⟨p, 0, none⟩)] w fun e w' => e = .returned (.int .i64 (l.getLast?.getD 0)) ∧ ∃ v', w'.heap[p]? = some (.cells (cs.setIfInBounds 0 v') ty (0, 0)) ∧ IR w' 121 v' l.dropLast ∧ Only (fun b => b = p) w w' ∧ v'.ownBlock = v.ownBlock := by
  have hpc : w.cell? ⟨p, 0, none⟩ = some v := by rw [cell_of_row w p 0 _ _ _ hp]; exact h0
  have hpf : w.frozen? ⟨p, 0, none⟩ = false := by simp [World.frozen?, hp]
  have hne := hr.ne hp hty
  rcases List.eq_nil_or_concat l with rfl | ⟨r, x, rfl⟩
  · have HA : Hid (∃ v', w.heap[p]? = some (.cells (cs.setIfInBounds 0 v') ty (0, 0)) ∧ IR w 121 v' ([] : List Int).dropLast ∧ Only (fun b => b = p) w w ∧ v'.ownBlock = v.ownBlock) := ⟨v, by
      rw [hp]
      congr 2
      apply Array.ext_getElem?
      intro i
      rw [Array.getElem?_setIfInBounds]
      split
      · rename_i e; subst e; split
        · exact h0
        · rename_i hh; rw [Array.getElem?_eq_none (by omega)]
      · rfl, hr, Only.refl _ _, rfl⟩
    obtain ⟨a, cap, rfl⟩ := hr.sl
    clear hp hr h0 hne
    simp only [List.length_nil] at *
    go_enter Tryd.func72, Tryd.ntmps72
    go_wp2
    go_ret
    exact ⟨rfl, HA.out⟩
  · rw [List.concat_eq_append] at *
    obtain ⟨g, cap, rfl, hg⟩ := hr.form (by simp)
    obtain ⟨_, hx⟩ := last_row hr
    have e1 : (r ++ [x]).length = r.length + 1 := by simp
    rw [e1] at hpc hr hne hl
    have hcap := hr.cap
    rw [e1] at hcap
    have q2 : (0 : Int) ≤ (r.length : Int) ∧ (r.length : Int) ≤ (cap : Int) := by omega
    have HP : Hid _ := hp
    have HR : Hid _ := hr
    have HN : Hid _ := hne
    have e2 : (r ++ [x]).getLast?.getD 0 = x := by simp
    have e3 : (r ++ [x]).dropLast = r := by simp
    have hgp : g ≠ p := fun e => hne (by rw [e]; rfl)
    have q0 : (0 : Int) ≤ (r.length : Int) + 1 - 1 := by omega
    have q1 : (0 : Int) ≤ (r.length : Int) ∧ (r.length : Int) < (r.length : Int) + 1 := by omega
    rw [e2, e3]
    clear hp hr h0 hne
    go_enter Tryd.func72, Tryd.ntmps72
    go_wp2
    go_ret
    refine ⟨rfl, .slice (some ⟨g, 0, none⟩) r.length cap, ?_, ?_, (Only.refl (fun b => b = p) w).setCell (.inl rfl) _, rfl⟩
    · rw [heap_setCell_same w p 0 _ _ _ HP.out]
    · exact (IR.pop HR.out).only ((Only.refl (fun b => b = p) _).setCell (.inl rfl) _) (fun k hk => by simp [Value.ownBlock] at hk; omega)
set_option maxHeartbeats 2000000 in
theorem theight_any {p : Nat} {cs : Array Value} {ty : TypeId} {v : Value} {l : List Int} {w : World} (hp : w.heap[p]? = some (.cells cs ty (0, 0))) (h0 : cs[0]? = some v) (hr : IR w 121 v l) :
    Calls Tryd.prog 42 #[.pointer (some ⟨p, 0, none⟩)] w fun e w' => e = .returned (.int .i64 l.length) ∧ w' = w := by
  have hpc : w.cell? ⟨p, 0, none⟩ = some v := by rw [cell_of_row w p 0 _ _ _ hp]; exact h0
  obtain ⟨a, cap, rfl⟩ := hr.sl
  clear hp hr h0
  go_enter Tryd.func42, Tryd.ntmps42
  go_wp2
  go_ret
  exact ⟨rfl, rfl⟩
end Go.Proofs.YtfkdailfcmnjlaaDoor

namespace Go.Proofs.YtfkdailfcmnjlaaDoor
open Go Go.RowKit
set_option maxRecDepth 100000
attribute [local go_sem ↓] Go.wp_at_zero Go.wp_at_succ

/-- A set in memory: the stack (the lowest first), the cells as far as something was learnt. -/
structure SetAt (w : World) (p : Nat) (vs vc : Value) (st c : List Int) : Prop where
  blk : w.heap[p]? = some (.cells #[vs, vc] 119 (0, 0))
  st : IR w 121 vs st
  cl : IR w 121 vc c
  ne : ∀ b, vs.ownBlock = some b → vc.ownBlock ≠ some b
/-- Its blocks. -/
def Foot (p : Nat) (vs vc : Value) (b : Nat) : Prop := b = p ∨ vs.ownBlock = some b ∨ vc.ownBlock = some b
theorem SetAt.lt {w : World} {p : Nat} {vs vc : Value} {st c : List Int} (h : SetAt w p vs vc st c) {b : Nat} (hb : Foot p vs vc b) : b < w.heap.size := by
  rcases hb with rfl | hb | hb
  · exact lt_of_get h.blk
  · exact (h.st.lt b hb).2
  · exact (h.cl.lt b hb).2
theorem SetAt.only {w w' : World} {p : Nat} {vs vc : Value} {st c : List Int} (h : SetAt w p vs vc st c) {F : Nat → Prop} (ho : Only F w w') (hF : ∀ b, Foot p vs vc b → ¬ F b) : SetAt w' p vs vc st c :=
  ⟨(ho.block p (lt_of_get h.blk) (hF p (.inl rfl))).trans h.blk, h.st.only ho (fun g hg => hF g (.inr (.inl hg))), h.cl.only ho (fun g hg => hF g (.inr (.inr hg))), h.ne⟩
theorem SetAt.drew {w : World} {p : Nat} {vs vc : Value} {st c : List Int} (h : SetAt w p vs vc st c) : SetAt w.drew p vs vc st c := ⟨h.blk, h.st, h.cl, h.ne⟩
/-- What an operation on a set leaves. -/
def SetOut (w w' : World) (p : Nat) (vs vc : Value) (st c : List Int) : Prop :=
  ∃ vs' vc', SetAt w' p vs' vc' st c ∧ Only (Foot p vs vc) w w' ∧ ∀ b, Foot p vs' vc' b → Foot p vs vc b ∨ w.heap.size ≤ b
theorem SetOut.refl {w : World} {p : Nat} {vs vc : Value} {st c : List Int} (h : SetAt w p vs vc st c) : SetOut w w p vs vc st c := ⟨vs, vc, h, Only.refl _ _, fun _ hb => .inl hb⟩
theorem SetOut.then {w w1 w2 : World} {p : Nat} {vs vc vs1 vc1 : Value} {st2 c2 : List Int} (ho : Only (Foot p vs vc) w w1) (hf : ∀ b, Foot p vs1 vc1 b → Foot p vs vc b ∨ w.heap.size ≤ b) (h2 : SetOut w1 w2 p vs1 vc1 st2 c2) : SetOut w w2 p vs vc st2 c2 := by
  obtain ⟨vs2, vc2, hs, ho2, hf2⟩ := h2
  refine ⟨vs2, vc2, hs, ho.trans ho2 (fun _ _ h => h) (fun i hi h => ?_), fun b hb => ?_⟩
  · rcases hf i h with h | h
    · exact h
    · omega
  · rcases hf2 b hb with h | h
    · exact hf b h
    · right; have := ho.size; omega
theorem ty_ne : 119 ≠ 121 := by decide
set_option maxHeartbeats 2000000 in
theorem spush_any {w : World} {p : Nat} {vs vc : Value} {st c : List Int} (x : Int) (h : SetAt w p vs vc st c) (hl : st.length ≤ 5000) :
    Calls Tryd.prog 70 #[.pointer (some ⟨p, 0, none⟩), .int .i64 x] w fun e w' => e = .returned (.tuple #[]) ∧ SetOut w w' p vs vc (st ++ [x]) c := by
  refine (tpush_any x h.blk (v := vs) rfl h.st ty_ne hl).mono ?_
  rintro e w' ⟨rfl, v', hb, hi, ho, hf⟩
  have hvp := h.cl.ne h.blk ty_ne
  refine ⟨rfl, v', vc, ⟨hb, hi, h.cl.only ho (fun g hg hn => ?_), fun b h1 h2 => ?_⟩, ho.weak (fun i _ hi => ?_), fun b hb => ?_⟩
  · rcases hn with rfl | hn
    · exact hvp hg
    · exact h.ne g hn hg
  · rcases hf b h1 with h3 | h3
    · exact h.ne b h3 h2
    · have := (h.cl.lt b h2).2; omega
  · rcases hi with rfl | hi
    · exact .inl rfl
    · exact .inr (.inl hi)
  · rcases hb with rfl | hb | hb
    · exact .inl (.inl rfl)
    · rcases hf b hb with h3 | h3
      · exact .inl (.inr (.inl h3))
      · exact .inr h3
    · exact .inl (.inr (.inr hb))
set_option maxHeartbeats 2000000 in
theorem spop_any {w : World} {p : Nat} {vs vc : Value} {st c : List Int} (h : SetAt w p vs vc st c) (hl : st.length ≤ 5000) :
    Calls Tryd.prog 72 #[.pointer (some ⟨p, 0, none⟩)] w fun e w' => e = .returned (.int .i64 (st.getLast?.getD 0)) ∧ SetOut w w' p vs vc st.dropLast c := by
  refine (tpop_any h.blk (v := vs) rfl h.st ty_ne hl).mono ?_
  rintro e w' ⟨rfl, v', hb, hi, ho, hf⟩
  have hvp := h.cl.ne h.blk ty_ne
  refine ⟨rfl, v', vc, ⟨hb, hi, h.cl.only ho (fun g hg hn => ?_), fun b h1 h2 => ?_⟩, ho.weak (fun i _ hi => .inl hi), fun b hb => ?_⟩
  · subst hn; exact hvp hg
  · rw [hf] at h1; exact h.ne b h1 h2
  · unfold Foot at hb ⊢
    rw [hf] at hb; exact .inl hb
set_option maxHeartbeats 2000000 in
theorem sof_any {w : World} {p : Nat} {vs vc : Value} {st c : List Int} (k : Nat) (h : SetAt w p vs vc st c) :
    Calls Tryd.prog 74 #[.pointer (some ⟨p, 0, none⟩), .int .i64 k] w fun e w' => e = .returned (.int .i64 (c.getD k 0)) ∧ w' = w := by
  have hpc : w.cell? ⟨p, 1, none⟩ = some vc := by rw [cell_of_row w p 1 _ _ _ h.blk]; rfl
  by_cases hk : k < c.length
  · obtain ⟨g, cap, rfl, hg⟩ := h.cl.form (by omega)
    have hc := h.cl.cell hk
    generalize c.getD k 0 = x at *
    clear h
    go_enter Tryd.func74, Tryd.ntmps74
    go_wp2
    go_ret
    exact ⟨rfl, rfl⟩
  · obtain ⟨a, cap, rfl⟩ := h.cl.sl
    have e : c.getD k 0 = 0 := by rw [List.getD_eq_getElem?_getD, List.getElem?_eq_none (by omega)]; rfl
    rw [e]
    clear h
    go_enter Tryd.func74, Tryd.ntmps74
    go_wp2
    go_ret
    exact ⟨rfl, rfl⟩
/-- What is learnt of a cell. -/
def learnL (c : List Int) (k : Nat) (x : Int) : List Int := (c ++ List.replicate (k + 1 - c.length) 0).set k x
end Go.Proofs.YtfkdailfcmnjlaaDoor

namespace Go.Proofs.YtfkdailfcmnjlaaDoor
open Go Go.RowKit
set_option maxRecDepth 100000

theorem zeroCells_ints (k : Nat) : Builtin.zeroCells (Value.int .i64 0).cells k = (List.replicate k (Value.int .i64 0)).toArray := by
  have e : (Value.int .i64 0).cells = #[Value.int .i64 0] := rfl
  rw [e]
  apply Array.ext
  · simp [Builtin.zeroCells]
  · intro j h1 h2
    simp [Builtin.zeroCells, Nat.mod_one]
theorem run_zeros_room {P : Program} (w : World) (t tn ty e : TypeId) (i : TypeInfo) (kq kn : IntKind) (ht : P.underlying t = some (.slice e)) (htn : P.underlying tn = some (.int kn)) (hi : P.info? e = some i) (hz : i.zero = some (.int .i64 0)) (hs : i.size = 1) (hb : i.bytes = 8)
    (g sLen sCap : Nat) (cur : Array Value) (hg : w.heap[g]? = some (.cells cur e (0, 0))) (k : Nat) (h0 : 0 < k) (hk : k ≤ 100000) (hroom : sLen + k ≤ sCap) (hfit : sLen + k ≤ cur.size) :
    (Builtin.append_ #[t, tn] ty #[.slice (some ⟨g, 0, none⟩) sLen sCap, .int kq k]).run P w =
      .ok (.slice (some ⟨g, 0, none⟩) (sLen + k) sCap) (w.setRow g (cur.toList.take sLen ++ List.replicate k (Value.int .i64 0) ++ cur.toList.drop (sLen + k)).toArray) := by
  have hk' : k ≠ 0 := by omega
  have hw : IntKind.i64.wrap (k : Int) = k := by rw [IntKind.wrap_i64]; omega
  have hneg : ¬ ((k : Int) < 0) := by omega
  have h48i : ¬ (281474976710656 < (k : Int) * 8) := by omega
  have hst := run_storeCells_at P g sLen e (List.replicate k (Value.int .i64 0)) 0 cur w hg (by simpa using hfit) (fun u hu => by rw [List.eq_of_mem_replicate hu]; rfl)
  simp only [Nat.add_zero, List.length_replicate] at hst
  have hzc := zeroCells_ints k
  simp [Builtin.append_, run_underlying ht, run_underlying htn, sizeOf, typeInfo, zeroValue, hi, hz, hs, hb, asInt, asIntOf, hw, hneg, h48i, hk', hroom, hzc, Addr.add_lit, hst]
theorem run_append_zeros {P : Program} (w : World) (t tn ty e : TypeId) (i : TypeInfo) (kq kn : IntKind) (ht : P.underlying t = some (.slice e)) (htn : P.underlying tn = some (.int kn)) (hi : P.info? e = some i) (hz : i.zero = some (.int .i64 0)) (hs : i.size = 1) (hb : i.bytes = 8)
    {v : Value} {l : List Int} (h : IR w e v l) (k : Nat) (h0 : 0 < k) (hk : l.length + k ≤ 100000) :
    ∃ g cap w', (Builtin.append_ #[t, tn] ty #[v, .int kq k]).run P w = .ok (.slice (some ⟨g, 0, none⟩) (l.length + k) cap) w' ∧ IR w' e (.slice (some ⟨g, 0, none⟩) (l.length + k) cap) (l ++ List.replicate k 0) ∧ w.grownBy w' v.ownBlock ∧ (v.ownBlock = some g ∨ g = w.heap.size) ∧ g < w'.heap.size := by
  have hlen : (l ++ List.replicate k (0 : Int)).length = l.length + k := by simp
  have hmap : (l ++ List.replicate k (0 : Int)).map (Value.int .i64) = l.map (Value.int .i64) ++ List.replicate k (Value.int .i64 0) := by simp
  have grown : ∀ (old : Nat) (row : Option Nat),
      IR (w.drew.alloc (.cells ((l.map (Value.int .i64)).toArray ++ Builtin.zeroCells (Value.int .i64 0).cells k ++ Builtin.zeroCells (Value.int .i64 0).cells (grownCap w (l.length + k) old e - (l.length + k))) e)) e (.slice (some ⟨w.heap.size, 0, none⟩) (l.length + k) (grownCap w (l.length + k) old e)) (l ++ List.replicate k 0) ∧
      w.grownBy (w.drew.alloc (.cells ((l.map (Value.int .i64)).toArray ++ Builtin.zeroCells (Value.int .i64 0).cells k ++ Builtin.zeroCells (Value.int .i64 0).cells (grownCap w (l.length + k) old e - (l.length + k))) e)) row := by
    intro old row
    have hge := grownCap_ge w (l.length + k) old e
    have hcm : grownCap w (l.length + k) old e ≤ maxLen := grownCap_le_maxLen w (l.length + k) old e (by unfold maxLen; omega)
    refine ⟨⟨by simp, .inr ⟨w.heap.size, _, _, by rw [hlen], Nat.zero_le _, heap_alloc_new w.drew _, by rw [hlen]; exact hge, hcm, ?_, ?_⟩⟩, ⟨rfl, rfl, rfl, by simp, fun k hk _ => Below.heap_alloc w.drew _ k hk⟩⟩
    · have e1 : (Value.int .i64 0).cells.size = 1 := rfl
      simp only [Array.size_append, List.size_toArray, size_zeroCells, e1, List.length_map]
      omega
    · rw [zeroCells_ints k, hmap, hlen]
      simp only [Array.toList_append]
      exact List.take_left' (by simp)
  rcases h.2 with ⟨rfl, h2⟩ | ⟨g, cap, cur, rfl, hbg, hg, hnc, hcm, hcs, htake⟩
  · have hl0 : l = [] := List.eq_nil_of_length_eq_zero h2
    subst hl0
    have hr := Lib.run_append_nil_zeros (P := P) w t tn ty e i (.int .i64 0) kq kn ht htn hi hz k h0 (by omega) (by omega) (by rw [hb]; omega)
    have hgr := grown 0 (Value.ownBlock (.slice none 0 0))
    simp only [List.length_nil, Nat.zero_add, List.map_nil, List.nil_append, Array.empty_append] at hgr ⊢
    exact ⟨_, _, _, hr, hgr.1, hgr.2, .inr rfl, by simp⟩
  · by_cases hroom : l.length + k ≤ cap
    · have hr := run_zeros_room (P := P) w t tn ty e i kq kn ht htn hi hz hs hb g l.length cap cur hg k h0 (by omega) hroom (by omega)
      refine ⟨_, _, _, hr, ⟨by simp, .inr ⟨g, cap, _, by rw [hlen], hbg, setRow_heap w g cur _ e _ hg, by rw [hlen]; exact hroom, hcm, ?_, ?_⟩⟩, ⟨rfl, rfl, rfl, by simp, fun k _ hk => setRow_other w g k _ (fun e => hk (by simp [Value.ownBlock, e]))⟩, .inl rfl, ?_⟩
      · simp only [List.size_toArray, List.length_append, List.length_take, List.length_drop, Array.length_toList, List.length_replicate]
        omega
      · rw [Nat.mul_one] at htake
        rw [htake, hmap, hlen]
        exact List.take_left' (by simp)
      · simpa using lt_of_get hg
    · have hold : (Builtin.firstCells i.size l.length (.slice (some ⟨g, 0, none⟩) l.length cap)).run P w.drew = .ok (l.map (Value.int .i64)).toArray w.drew := by
        have hr : w.drew.ownsRow 0 e 1 (.slice (some ⟨g, 0, none⟩) l.length cap) l.length (l.map (Value.int .i64)) := h
        exact run_firstCells_some (P := P) w.drew i.size l.length ⟨g, 0, none⟩ l.length cap _ (by rw [hs]; simp) (hr.cells (g := g) rfl)
      have hr := Lib.run_append_grow_zeros (P := P) w t tn ty e i (.int .i64 0) kq kn ht htn hi hz (some ⟨g, 0, none⟩) l.length cap (l.map (Value.int .i64)) hold k h0 (by omega) (by omega) (by omega) (by rw [hb]; omega) (growslice_fits (by omega) (by rw [hb]; omega))
      have hgr := grown cap (Value.ownBlock (.slice (some ⟨g, 0, none⟩) l.length cap))
      exact ⟨_, _, _, hr, hgr.1, hgr.2, .inr rfl, by simp⟩
theorem wpList_append_zeros {P : Program} {w : World} {ops : Array Oper} {rest : List Oper} {o : Oper} {a : Act} {Q : Exit → Act → World → Prop} (hgd : o.guard = none) (s x : Operand) (t tn : TypeId)
    (ho : o.op = .call { callee := .builtin .append, args := #[s, x], argTypes := #[t, tn] }) (e : TypeId) (i : TypeInfo) (kq kn : IntKind) (ht : P.underlying t = some (.slice e)) (htn : P.underlying tn = some (.int kn)) (hi : P.info? e = some i) (hz : i.zero = some (.int .i64 0)) (hs : i.size = 1) (hb : i.bytes = 8)
    {v : Value} {l : List Int} (k : Nat) (hv : a.eval s = v) (hx : a.eval x = .int kq k) (h : IR w e v l) (h0 : 0 < k) (hk : l.length + k ≤ 100000)
    (hK : ∀ g cap w', IR w' e (.slice (some ⟨g, 0, none⟩) (l.length + k) cap) (l ++ List.replicate k 0) → w.grownBy w' v.ownBlock → (v.ownBlock = some g ∨ g = w.heap.size) → g < w'.heap.size → wpList P ops Q rest (a.put o.dst (.slice (some ⟨g, 0, none⟩) (l.length + k) cap)) w') : wpList P ops Q (o :: rest) a w := by
  obtain ⟨g, cap, w', hr, h1, h2, h3, h4⟩ := run_append_zeros (P := P) w t tn o.type e i kq kn ht htn hi hz hs hb h k h0 hk
  exact Lib.wpList_append_run w hgd s x t tn ho v _ hv hx _ _ hr (hK g cap w' h1 h2 h3 h4)
end Go.Proofs.YtfkdailfcmnjlaaDoor

namespace Go.Proofs.YtfkdailfcmnjlaaDoor
open Go Go.RowKit
set_option maxRecDepth 100000
attribute [local go_sem ↓] Go.wp_at_zero Go.wp_at_succ

set_option maxHeartbeats 2000000 in
theorem slearn_any {w : World} {p : Nat} {vs vc : Value} {st c : List Int} (k : Nat) (x : Int) (h : SetAt w p vs vc st c) (hk : k ≤ 255) (hc : c.length ≤ 256) :
    Calls Tryd.prog 73 #[.pointer (some ⟨p, 0, none⟩), .int .i64 k, .int .i64 x] w fun e w' => e = .returned (.tuple #[]) ∧ SetOut w w' p vs vc st (learnL c k x) := by
  have hpc : w.cell? ⟨p, 1, none⟩ = some vc := by rw [cell_of_row w p 1 _ _ _ h.blk]; rfl
  have hpf : w.frozen? ⟨p, 1, none⟩ = false := by simp [World.frozen?, h.blk]
  have hlt := lt_of_get h.blk
  have hne := h.cl.ne h.blk ty_ne
  by_cases hkc : k < c.length
  · obtain ⟨g, cap, rfl, hg⟩ := h.cl.form (by omega)
    have hcc := h.cl.cell hkc
    have hcf := h.cl.frz k
    have e : learnL c k x = c.set k x := by unfold learnL; rw [show k + 1 - c.length = 0 by omega]; simp
    rw [e]
    have hgp : g ≠ p := fun e => hne (by rw [e]; rfl)
    have HA : Hid (SetOut w (w.setCell ⟨g, k, none⟩ (.int .i64 x)) p vs (.slice (some ⟨g, 0, none⟩) c.length cap) st (c.set k x)) := by
      have ho : Only (fun b => b = g) w (w.setCell ⟨g, k, none⟩ (.int .i64 x)) := (Only.refl (fun b => b = g) w).setCell (.inl rfl) _
      refine ⟨vs, .slice (some ⟨g, 0, none⟩) c.length cap, ⟨(ho.block p hlt (fun e => hgp e.symm)).trans h.blk, h.st.only ho (fun b hb e => ?_), h.cl.set hkc x, h.ne⟩, ho.weak (fun i _ hi => ?_), fun b hb => .inl hb⟩
      · subst e; exact h.ne b hb rfl
      · subst hi; exact .inr (.inr rfl)
    generalize c.getD k 0 = y at *
    generalize c.length = n at *
    clear h hne
    go_enter Tryd.func73, Tryd.ntmps73
    go_wp2
    go_end0
    exact ⟨rfl, HA.out⟩
  · obtain ⟨d, rfl⟩ : ∃ d, k = c.length + d := ⟨k - c.length, by omega⟩
    have e : learnL c (c.length + d) x = (c ++ List.replicate (d + 1) 0).set (c.length + d) x := by unfold learnL; rw [show c.length + d + 1 - c.length = d + 1 by omega]
    rw [e]
    obtain ⟨a, cap, rfl⟩ := h.cl.sl
    obtain ⟨i0, hi, hz⟩ := Option.map_eq_some_iff.1 info_TType
    simp only [Prod.mk.injEq] at hz
    obtain ⟨hz0, hz1, hz2⟩ := hz
    have HE : Hid _ := e
    generalize hn : c.length = n at h hpc hc hk hkc hne HE ⊢
    have H : Hid _ := h
    have HN : Hid _ := hne
    have HNC : Hid _ := hn
    clear h hne e hn
    go_enter Tryd.func73, Tryd.ntmps73
    go_wp2_with (
      at_builtin
      go_must (refine wpList_append_zeros (by rfl) _ _ 115 3 (by rfl) 121 i0 .i64 .i64 Tryd.underlying115 Tryd.underlying3 hi hz0 hz1 hz2 (d + 1) (by rfl) (by simp [go_sem]; omega) H.out.cl (by omega) (by rw [HNC.out]; omega) ?_)
      rw [HNC.out]
      intro gg cap' w3 hown3 hgrow hat hlt3
      have hgp : gg ≠ p := by
        intro e
        rcases hat with h | h
        · exact HN.out (by rw [h, e])
        · omega
      have hcc := hown3.cell (k := n + d) (by simp [HNC.out])
      have hcf := hown3.frz (n + d)
      generalize ((c ++ List.replicate (d + 1) 0).getD (n + d) 0) = y at hcc
      have e0 : w3.heap[p]? = w.heap[p]? := (hgrow.block _ (by omega) (fun e => HN.out e.symm))
      have e1 := (World.cell?_of_block (a := ⟨p, 1, none⟩) e0).trans hpc
      have e2 := (World.frozen?_of_block (a := ⟨p, 1, none⟩) e0).trans hpf
      have HE0 : Hid _ := e0
      have HO3 : Hid _ := hown3
      have HG3 : Hid _ := hgrow
      clear e0 hown3 hgrow)
    go_end0
    refine ⟨rfl, ?_⟩
    have hO := HO3.out
    rw [show n + (d + 1) = (c ++ List.replicate (d + 1) (0 : Int)).length by rw [List.length_append, HNC.out, List.length_replicate]] at hO ⊢
    have h1 : IR w3 121 _ _ := hO
    have ho1 : Only (fun b => b = p) w3 (w3.setCell ⟨p, 1, none⟩ (.slice (some ⟨gg, 0, none⟩) (c ++ List.replicate (d + 1) (0 : Int)).length cap')) := (Only.refl (fun b => b = p) w3).setCell (.inl rfl) _
    have h2 := h1.only ho1 (fun g hg => by simp [Value.ownBlock] at hg; omega)
    have h3 := h2.set (j := n + d) (by simp [HNC.out]) x
    have hE : Only (Foot p vs (.slice a n cap)) w w3 := (Only.refl _ w).grown HG3.out (fun k hk => .inl (.inr (.inr hk)))
    have ho2 : Only (fun b => b = p ∨ b = gg) w3 ((w3.setCell ⟨p, 1, none⟩ (.slice (some ⟨gg, 0, none⟩) (c ++ List.replicate (d + 1) (0 : Int)).length cap')).setCell ⟨gg, n + d, none⟩ (.int .i64 x)) := ((Only.refl (fun b => b = p ∨ b = gg) w3).setCell (.inl (.inl rfl)) _).setCell (.inl (.inr rfl)) _
    have hgf : ∀ i, i < w.heap.size → i = gg → Foot p vs (.slice a n cap) i := fun i hi e => by
      subst e
      rcases hat with h | h
      · exact .inr (.inr h)
      · omega
    have hblk : w3.heap[p]? = _ := HE0.out.trans H.out.blk
    have hst : IR w3 121 vs st := ownsRow_of_block H.out.st (fun k hk => HG3.out.block k (H.out.st.lt k hk).2 (fun e => H.out.ne k hk e.symm))
    have hvg : vs.ownBlock ≠ some gg := fun e => by
      rcases hat with h | h
      · exact H.out.ne gg e h
      · have := (H.out.st.lt gg e).2; omega
    refine ⟨vs, .slice (some ⟨gg, 0, none⟩) (c ++ List.replicate (d + 1) (0 : Int)).length cap', ⟨?_, hst.only ho2 (fun g hg e => ?_), h3, fun b hb e => ?_⟩, hE.trans ho2 (fun _ _ h => h) (fun i hi h => ?_), fun b hb => ?_⟩
    · rw [Below.heap_setCell _ _ _ _ (by simpa using fun e => hgp e.symm), heap_setCell_same w3 p 1 _ _ _ hblk]; rfl
    · rcases e with e | e
      · subst e; exact H.out.st.ne H.out.blk ty_ne hg
      · subst e; exact hvg hg
    · simp [Value.ownBlock] at e; subst e; exact hvg hb
    · rcases h with h | h
      · exact .inl h
      · exact hgf i hi h
    · rcases hb with hb | hb | hb
      · exact .inl (.inl hb)
      · exact .inl (.inr (.inl hb))
      · simp [Value.ownBlock] at hb
        rcases hat with h | h
        · subst hb; exact .inl (.inr (.inr h))
        · right; omega
end Go.Proofs.YtfkdailfcmnjlaaDoor
