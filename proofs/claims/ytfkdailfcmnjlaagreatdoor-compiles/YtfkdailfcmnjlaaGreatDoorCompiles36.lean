/-
  The document's 'does': what is known behind an instruction. The document's 'does': fields, cells, the sign '='.
-/
import Derived.Test.YtfkdailfcmnjlaaGreatDoorCompiles01
import Derived.Test.YtfkdailfcmnjlaaGreatDoorCompiles02
import Derived.Test.YtfkdailfcmnjlaaGreatDoorCompiles04
import Derived.Test.YtfkdailfcmnjlaaGreatDoorCompiles05
import Derived.Test.YtfkdailfcmnjlaaGreatDoorCompiles06
import Derived.Test.YtfkdailfcmnjlaaGreatDoorCompiles07
import Derived.Test.YtfkdailfcmnjlaaGreatDoorCompiles08
import Derived.Test.YtfkdailfcmnjlaaGreatDoorCompiles09
import Derived.Test.YtfkdailfcmnjlaaGreatDoorCompiles10
import Derived.Test.YtfkdailfcmnjlaaGreatDoorCompiles11
import Derived.Test.YtfkdailfcmnjlaaGreatDoorCompiles12
import Derived.Test.YtfkdailfcmnjlaaGreatDoorCompiles13
import Derived.Test.YtfkdailfcmnjlaaGreatDoorCompiles14
import Derived.Test.YtfkdailfcmnjlaaGreatDoorCompiles15
import Derived.Test.YtfkdailfcmnjlaaGreatDoorCompiles16
import Derived.Test.YtfkdailfcmnjlaaGreatDoorCompiles17
import Derived.Test.YtfkdailfcmnjlaaGreatDoorCompiles18
import Derived.Test.YtfkdailfcmnjlaaGreatDoorCompiles19
import Derived.Test.YtfkdailfcmnjlaaGreatDoorCompiles20
import Derived.Test.YtfkdailfcmnjlaaGreatDoorCompiles21
import Derived.Test.YtfkdailfcmnjlaaGreatDoorCompiles22
import Derived.Test.YtfkdailfcmnjlaaGreatDoorCompiles23
import Derived.Test.YtfkdailfcmnjlaaGreatDoorCompiles24
import Derived.Test.YtfkdailfcmnjlaaGreatDoorCompiles28
import Derived.Test.YtfkdailfcmnjlaaGreatDoorCompiles29
import Derived.Test.YtfkdailfcmnjlaaGreatDoorCompiles30
import Derived.Test.YtfkdailfcmnjlaaGreatDoorCompiles31
import Derived.Test.YtfkdailfcmnjlaaGreatDoorCompiles32
import Derived.Test.YtfkdailfcmnjlaaGreatDoorCompiles34
import Derived.Test.YtfkdailfcmnjlaaGreatDoorCompiles35
import Derived.Test.YtfkdailfcmnjlaaGreatDoorLays
import Derived.Test.YtfkdailfcmnjlaaGreatDoorLays2
import Derived.WalkKit
import Derived.Deep.QuietTactic
import Derived.BigQuiet
import Derived.WalkSpells
import GoSem.Op.String
import Derived.Deep.AppendLies
import Derived.Deep.RegionHeld3
import Derived.Deep.DrawnRows
import Derived.Deep.RegionHeldLaw
import Derived.Deep.RegionLaw
import Derived.Lib.ParseIntBCases
import Derived.Deep.OwnRows
import Derived.Lib.LaidTab
import Derived.Lib.AppendIntMem
import Derived.Shelf.Strings.Builder1
import Derived.Laws.CopyOwn
import Derived.Deep.DeepCutAuto
set_option linter.unusedVariables false
set_option linter.unusedSimpArgs false
namespace Go.Proofs.YtfkdailfcmnjlaaGreatDoor
open Go Go.RowKit
set_option maxRecDepth 100000
attribute [local go_sem ↓] Go.wp_at_zero Go.wp_at_succ

/-- What is known at a place, as the document has it. -/
def knV (k : Kn) : Value := .agg #[.bool true, S (stS k.st), S (clS k.cl)]
def DoesAns (r : Option Kn) (e : Ending) : Prop := match r with
  | some k => e = .returned (.tuple #[knV k, .bool true])
  | none => ∃ s1 s2, e = .returned (.tuple #[.agg #[.bool true, .string s1, .string s2], .bool false])
theorem stS_app (a b : List Nat) : stS (a ++ b) = stS b ++ stS a := by simp [stS]
theorem takes_st2 {st want more : List Nat} (h1 : Tys1 st) (h2 : Tys1 want) : takesS (stS st) (stS want) (stS more) = if st.take want.length = want then some (stS (more ++ st.drop want.length)) else none := by
  unfold takesS
  rw [stS_len, stS_len]
  by_cases h : st.take want.length = want
  · have hl : want.length ≤ st.length := by have := congrArg List.length h; simp at this; omega
    have e : stS st = stS (st.drop want.length) ++ stS want := by
      conv => lhs; rw [← List.take_append_drop want.length st, h]
      exact stS_app _ _
    have hd : (stS (st.drop want.length)).length = st.length - want.length := by rw [stS_len]; simp
    rw [if_pos h, if_pos ⟨hl, by rw [e, List.drop_append_of_le_length (by omega), List.drop_of_length_le (by omega)]; rfl⟩, e, List.take_append_of_le_length (by omega), List.take_of_length_le (by omega), stS_app]
  · rw [if_neg h, if_neg]
    rintro ⟨hl, hd⟩
    refine h ?_
    have e : stS st = stS (st.drop want.length) ++ stS (st.take want.length) := by
      conv => lhs; rw [← List.take_append_drop want.length st]
      exact stS_app _ _
    have hl2 : (stS (st.drop want.length)).length = st.length - want.length := by rw [stS_len]; simp
    rw [e, List.drop_append_of_le_length (by omega), List.drop_of_length_le (by omega)] at hd
    exact stS_inj (fun t ht => h1 t (List.mem_of_mem_take ht)) h2 hd
theorem below_two (w : World) (o1 o2 : Obj) : Below w.heap.size w ((w.alloc o1).alloc o2) := ((Below.refl _ _).alloc (Nat.le_refl _) _).alloc (by simp) _
abbrev BA (l : List UInt8) : ByteArray := ⟨l.toArray⟩
set_option maxHeartbeats 4000000 in
theorem does1 {b : List UInt8} {a n : Nat} {k : Kn} (hb : b.length ≤ 4000) (hk : k.st.length ≤ 100) (hc : k.cl.length ≤ 255) (h1 : Tys1 k.st) (h2 : Tys k.cl) (ha : a < (ByteArray.mk b.toArray).size) (hop : ((ByteArray.mk b.toArray)[a]).toNat = 1) (w : World) : Calls Tryz.prog 46 #[S b, .int .i64 a, knV k] w fun e w' => DoesAns (doesK 1 n k) e ∧ Below w.heap.size w w' := by
  have ha' : a < b.length := ha
  have hl := stS_len k.st
  have HR : Hid (doesK 1 n k = some ⟨1 :: k.st, k.cl⟩ ∧ S (stS (1 :: k.st)) = Value.string (BA (stS k.st) ++ BA [110])) := ⟨rfl, by rw [stS_cons, app_ba]; rfl⟩
  unfold knV
  clear h1 h2
  go_enter Tryz.func46, Tryz.ntmps46
  go_wp2
  refine bodyPost_ret (v := .tuple #[.agg #[.bool true, .string (BA (stS k.st) ++ BA [110]), S (clS k.cl)], .bool true]) (by simp [results, Tryz.results46, go_sem]) rfl ?_
  exact ⟨by rw [HR.out.1]; show _ = _; rw [knV, HR.out.2], below_two _ _ _⟩
set_option maxHeartbeats 4000000 in
theorem does2 {b : List UInt8} {a n : Nat} {k : Kn} (hb : b.length ≤ 4000) (hk : k.st.length ≤ 100) (hc : k.cl.length ≤ 255) (h1 : Tys1 k.st) (h2 : Tys k.cl) (ha : a < (ByteArray.mk b.toArray).size) (hop : ((ByteArray.mk b.toArray)[a]).toNat = 2) (w : World) : Calls Tryz.prog 46 #[S b, .int .i64 a, knV k] w fun e w' => DoesAns (doesK 2 n k) e ∧ Below w.heap.size w w' := by
  have ha' : a < b.length := ha
  have hl := stS_len k.st
  have HR : Hid (doesK 2 n k = some ⟨2 :: k.st, k.cl⟩ ∧ S (stS (2 :: k.st)) = Value.string (BA (stS k.st) ++ BA [116])) := ⟨rfl, by rw [stS_cons, app_ba]; rfl⟩
  unfold knV
  clear h1 h2
  go_enter Tryz.func46, Tryz.ntmps46
  go_wp2
  refine bodyPost_ret (v := .tuple #[.agg #[.bool true, .string (BA (stS k.st) ++ BA [116]), S (clS k.cl)], .bool true]) (by simp [results, Tryz.results46, go_sem]) rfl ?_
  exact ⟨by rw [HR.out.1]; show _ = _; rw [knV, HR.out.2], below_two _ _ _⟩
set_option maxHeartbeats 4000000 in
theorem does3 {b : List UInt8} {a n : Nat} {k : Kn} (hb : b.length ≤ 4000) (hk : k.st.length ≤ 100) (hc : k.cl.length ≤ 255) (h1 : Tys1 k.st) (h2 : Tys k.cl) (ha : a < (ByteArray.mk b.toArray).size) (hop : ((ByteArray.mk b.toArray)[a]).toNat = 3) (w : World) : Calls Tryz.prog 46 #[S b, .int .i64 a, knV k] w fun e w' => DoesAns (doesK 3 n k) e ∧ Below w.heap.size w w' := by
  have ha' : a < b.length := ha
  have hl := stS_len k.st
  have HR : Hid (doesK 3 n k = some ⟨3 :: k.st, k.cl⟩ ∧ S (stS (3 :: k.st)) = Value.string (BA (stS k.st) ++ BA [109])) := ⟨rfl, by rw [stS_cons, app_ba]; rfl⟩
  unfold knV
  clear h1 h2
  go_enter Tryz.func46, Tryz.ntmps46
  go_wp2
  refine bodyPost_ret (v := .tuple #[.agg #[.bool true, .string (BA (stS k.st) ++ BA [109]), S (clS k.cl)], .bool true]) (by simp [results, Tryz.results46, go_sem]) rfl ?_
  exact ⟨by rw [HR.out.1]; show _ = _; rw [knV, HR.out.2], below_two _ _ _⟩
set_option maxHeartbeats 4000000 in
theorem does16 {b : List UInt8} {a n : Nat} {k : Kn} (hb : b.length ≤ 4000) (hk : k.st.length ≤ 100) (hc : k.cl.length ≤ 255) (h1 : Tys1 k.st) (h2 : Tys k.cl) (ha : a < (ByteArray.mk b.toArray).size) (hop : ((ByteArray.mk b.toArray)[a]).toNat = 16) (w : World) : Calls Tryz.prog 46 #[S b, .int .i64 a, knV k] w fun e w' => DoesAns (doesK 16 n k) e ∧ Below w.heap.size w w' := by
  have ha' : a < b.length := ha
  have hl := stS_len k.st
  have HR : Hid (doesK 16 n k = some k) := rfl
  unfold knV
  clear h1 h2
  go_enter Tryz.func46, Tryz.ntmps46
  go_wp2
  refine bodyPost_ret (v := .tuple #[.agg #[.bool true, S (stS k.st), S (clS k.cl)], .bool true]) (by simp [results, Tryz.results46, go_sem]) rfl ?_
  exact ⟨by rw [HR.out]; rfl, below_two _ _ _⟩
set_option maxHeartbeats 4000000 in
theorem does17 {b : List UInt8} {a n : Nat} {k : Kn} (hb : b.length ≤ 4000) (hk : k.st.length ≤ 100) (hc : k.cl.length ≤ 255) (h1 : Tys1 k.st) (h2 : Tys k.cl) (ha : a < (ByteArray.mk b.toArray).size) (hop : ((ByteArray.mk b.toArray)[a]).toNat = 17) (w : World) : Calls Tryz.prog 46 #[S b, .int .i64 a, knV k] w fun e w' => DoesAns (doesK 17 n k) e ∧ Below w.heap.size w w' := by
  have ha' : a < b.length := ha
  have hl := stS_len k.st
  have HR : Hid (doesK 17 n k = some k) := rfl
  unfold knV
  clear h1 h2
  go_enter Tryz.func46, Tryz.ntmps46
  go_wp2
  refine bodyPost_ret (v := .tuple #[.agg #[.bool true, S (stS k.st), S (clS k.cl)], .bool true]) (by simp [results, Tryz.results46, go_sem]) rfl ?_
  exact ⟨by rw [HR.out]; rfl, below_two _ _ _⟩
set_option maxHeartbeats 4000000 in
theorem does18 {b : List UInt8} {a n : Nat} {k : Kn} (hb : b.length ≤ 4000) (hk : k.st.length ≤ 100) (hc : k.cl.length ≤ 255) (h1 : Tys1 k.st) (h2 : Tys k.cl) (ha : a < (ByteArray.mk b.toArray).size) (hop : ((ByteArray.mk b.toArray)[a]).toNat = 18) (w : World) : Calls Tryz.prog 46 #[S b, .int .i64 a, knV k] w fun e w' => DoesAns (doesK 18 n k) e ∧ Below w.heap.size w w' := by
  have ha' : a < b.length := ha
  have hl := stS_len k.st
  have HR : Hid (doesK 18 n k = some k) := rfl
  unfold knV
  clear h1 h2
  go_enter Tryz.func46, Tryz.ntmps46
  go_wp2
  refine bodyPost_ret (v := .tuple #[.agg #[.bool true, S (stS k.st), S (clS k.cl)], .bool true]) (by simp [results, Tryz.results46, go_sem]) rfl ?_
  exact ⟨by rw [HR.out]; rfl, below_two _ _ _⟩
set_option maxHeartbeats 4000000 in
theorem does7 {b : List UInt8} {a n : Nat} {k : Kn} (hb : b.length ≤ 4000) (hk : k.st.length ≤ 100) (hc : k.cl.length ≤ 255) (h1 : Tys1 k.st) (h2 : Tys k.cl) (ha : a < (ByteArray.mk b.toArray).size) (hop : ((ByteArray.mk b.toArray)[a]).toNat = 7) (w : World) : Calls Tryz.prog 46 #[S b, .int .i64 a, knV k] w fun e w' => DoesAns (doesK 7 n k) e ∧ Below w.heap.size w w' := by
  have ha' : a < b.length := ha
  have hl := stS_len k.st
  have HT : Hid (takesS (stS k.st) (stS [1, 1]) (stS [1]) = if k.st.take 2 = [1, 1] then some (stS ([1] ++ k.st.drop 2)) else none) := takes_st2 (want := [1, 1]) (more := [1]) h1 (by intro t ht; simp at ht; subst ht; decide)
  have HR : Hid (doesK 7 n k = if k.st.take 2 = [1, 1] then some ⟨[1] ++ k.st.drop 2, k.cl⟩ else none) := rfl
  have HC := fun W => takes_any (stS k.st) (stS [1, 1]) (stS [1]) (by omega) (by decide) (by decide) W
  unfold knV
  clear h1 h2
  by_cases hs : k.st.take 2 = [1, 1]
  · rw [HT.out, if_pos hs] at HC
    have HR2 : Hid _ := HR.out.trans (if_pos hs)
    clear HT HR
    unfold takesV at HC
    simp only [] at HC
    go_enter Tryz.func46, Tryz.ntmps46
    go_wp2_with fail
    refine (HC _).mono ?_
    rintro e w1 ⟨rfl, rfl⟩
    clear HC
    go_wp2
    refine bodyPost_ret (v := .tuple #[.agg #[.bool true, S (stS ([1] ++ k.st.drop 2)), S (clS k.cl)], .bool true]) (by simp [results, Tryz.results46, go_sem]) rfl ?_
    exact ⟨by rw [HR2.out]; rfl, below_two _ _ _⟩
  · rw [HT.out, if_neg hs] at HC
    have HR2 : Hid _ := HR.out.trans (if_neg hs)
    clear HT HR
    unfold takesV at HC
    simp only [] at HC
    go_enter Tryz.func46, Tryz.ntmps46
    go_wp2_with fail
    refine (HC _).mono ?_
    rintro e w1 ⟨rfl, rfl⟩
    clear HC
    go_wp2
    refine bodyPost_ret (v := .tuple #[.agg #[.bool true, S [], S (clS k.cl)], .bool false]) (by simp [results, Tryz.results46, go_sem]) rfl ?_
    exact ⟨by rw [HR2.out]; exact ⟨_, _, rfl⟩, below_two _ _ _⟩
set_option maxHeartbeats 4000000 in
theorem does8 {b : List UInt8} {a n : Nat} {k : Kn} (hb : b.length ≤ 4000) (hk : k.st.length ≤ 100) (hc : k.cl.length ≤ 255) (h1 : Tys1 k.st) (h2 : Tys k.cl) (ha : a < (ByteArray.mk b.toArray).size) (hop : ((ByteArray.mk b.toArray)[a]).toNat = 8) (w : World) : Calls Tryz.prog 46 #[S b, .int .i64 a, knV k] w fun e w' => DoesAns (doesK 8 n k) e ∧ Below w.heap.size w w' := by
  have ha' : a < b.length := ha
  have hl := stS_len k.st
  have HT : Hid (takesS (stS k.st) (stS [1, 1]) (stS [1]) = if k.st.take 2 = [1, 1] then some (stS ([1] ++ k.st.drop 2)) else none) := takes_st2 (want := [1, 1]) (more := [1]) h1 (by intro t ht; simp at ht; subst ht; decide)
  have HR : Hid (doesK 8 n k = if k.st.take 2 = [1, 1] then some ⟨[1] ++ k.st.drop 2, k.cl⟩ else none) := rfl
  have HC := fun W => takes_any (stS k.st) (stS [1, 1]) (stS [1]) (by omega) (by decide) (by decide) W
  unfold knV
  clear h1 h2
  by_cases hs : k.st.take 2 = [1, 1]
  · rw [HT.out, if_pos hs] at HC
    have HR2 : Hid _ := HR.out.trans (if_pos hs)
    clear HT HR
    unfold takesV at HC
    simp only [] at HC
    go_enter Tryz.func46, Tryz.ntmps46
    go_wp2_with fail
    refine (HC _).mono ?_
    rintro e w1 ⟨rfl, rfl⟩
    clear HC
    go_wp2
    refine bodyPost_ret (v := .tuple #[.agg #[.bool true, S (stS ([1] ++ k.st.drop 2)), S (clS k.cl)], .bool true]) (by simp [results, Tryz.results46, go_sem]) rfl ?_
    exact ⟨by rw [HR2.out]; rfl, below_two _ _ _⟩
  · rw [HT.out, if_neg hs] at HC
    have HR2 : Hid _ := HR.out.trans (if_neg hs)
    clear HT HR
    unfold takesV at HC
    simp only [] at HC
    go_enter Tryz.func46, Tryz.ntmps46
    go_wp2_with fail
    refine (HC _).mono ?_
    rintro e w1 ⟨rfl, rfl⟩
    clear HC
    go_wp2
    refine bodyPost_ret (v := .tuple #[.agg #[.bool true, S [], S (clS k.cl)], .bool false]) (by simp [results, Tryz.results46, go_sem]) rfl ?_
    exact ⟨by rw [HR2.out]; exact ⟨_, _, rfl⟩, below_two _ _ _⟩
set_option maxHeartbeats 4000000 in
theorem does10 {b : List UInt8} {a n : Nat} {k : Kn} (hb : b.length ≤ 4000) (hk : k.st.length ≤ 100) (hc : k.cl.length ≤ 255) (h1 : Tys1 k.st) (h2 : Tys k.cl) (ha : a < (ByteArray.mk b.toArray).size) (hop : ((ByteArray.mk b.toArray)[a]).toNat = 10) (w : World) : Calls Tryz.prog 46 #[S b, .int .i64 a, knV k] w fun e w' => DoesAns (doesK 10 n k) e ∧ Below w.heap.size w w' := by
  have ha' : a < b.length := ha
  have hl := stS_len k.st
  have HT : Hid (takesS (stS k.st) (stS [1, 1]) (stS [2]) = if k.st.take 2 = [1, 1] then some (stS ([2] ++ k.st.drop 2)) else none) := takes_st2 (want := [1, 1]) (more := [2]) h1 (by intro t ht; simp at ht; subst ht; decide)
  have HR : Hid (doesK 10 n k = if k.st.take 2 = [1, 1] then some ⟨[2] ++ k.st.drop 2, k.cl⟩ else none) := rfl
  have HC := fun W => takes_any (stS k.st) (stS [1, 1]) (stS [2]) (by omega) (by decide) (by decide) W
  unfold knV
  clear h1 h2
  by_cases hs : k.st.take 2 = [1, 1]
  · rw [HT.out, if_pos hs] at HC
    have HR2 : Hid _ := HR.out.trans (if_pos hs)
    clear HT HR
    unfold takesV at HC
    simp only [] at HC
    go_enter Tryz.func46, Tryz.ntmps46
    go_wp2_with fail
    refine (HC _).mono ?_
    rintro e w1 ⟨rfl, rfl⟩
    clear HC
    go_wp2
    refine bodyPost_ret (v := .tuple #[.agg #[.bool true, S (stS ([2] ++ k.st.drop 2)), S (clS k.cl)], .bool true]) (by simp [results, Tryz.results46, go_sem]) rfl ?_
    exact ⟨by rw [HR2.out]; rfl, below_two _ _ _⟩
  · rw [HT.out, if_neg hs] at HC
    have HR2 : Hid _ := HR.out.trans (if_neg hs)
    clear HT HR
    unfold takesV at HC
    simp only [] at HC
    go_enter Tryz.func46, Tryz.ntmps46
    go_wp2_with fail
    refine (HC _).mono ?_
    rintro e w1 ⟨rfl, rfl⟩
    clear HC
    go_wp2
    refine bodyPost_ret (v := .tuple #[.agg #[.bool true, S [], S (clS k.cl)], .bool false]) (by simp [results, Tryz.results46, go_sem]) rfl ?_
    exact ⟨by rw [HR2.out]; exact ⟨_, _, rfl⟩, below_two _ _ _⟩
set_option maxHeartbeats 4000000 in
theorem does11 {b : List UInt8} {a n : Nat} {k : Kn} (hb : b.length ≤ 4000) (hk : k.st.length ≤ 100) (hc : k.cl.length ≤ 255) (h1 : Tys1 k.st) (h2 : Tys k.cl) (ha : a < (ByteArray.mk b.toArray).size) (hop : ((ByteArray.mk b.toArray)[a]).toNat = 11) (w : World) : Calls Tryz.prog 46 #[S b, .int .i64 a, knV k] w fun e w' => DoesAns (doesK 11 n k) e ∧ Below w.heap.size w w' := by
  have ha' : a < b.length := ha
  have hl := stS_len k.st
  have HT : Hid (takesS (stS k.st) (stS [1, 1]) (stS [2]) = if k.st.take 2 = [1, 1] then some (stS ([2] ++ k.st.drop 2)) else none) := takes_st2 (want := [1, 1]) (more := [2]) h1 (by intro t ht; simp at ht; subst ht; decide)
  have HR : Hid (doesK 11 n k = if k.st.take 2 = [1, 1] then some ⟨[2] ++ k.st.drop 2, k.cl⟩ else none) := rfl
  have HC := fun W => takes_any (stS k.st) (stS [1, 1]) (stS [2]) (by omega) (by decide) (by decide) W
  unfold knV
  clear h1 h2
  by_cases hs : k.st.take 2 = [1, 1]
  · rw [HT.out, if_pos hs] at HC
    have HR2 : Hid _ := HR.out.trans (if_pos hs)
    clear HT HR
    unfold takesV at HC
    simp only [] at HC
    go_enter Tryz.func46, Tryz.ntmps46
    go_wp2_with fail
    refine (HC _).mono ?_
    rintro e w1 ⟨rfl, rfl⟩
    clear HC
    go_wp2
    refine bodyPost_ret (v := .tuple #[.agg #[.bool true, S (stS ([2] ++ k.st.drop 2)), S (clS k.cl)], .bool true]) (by simp [results, Tryz.results46, go_sem]) rfl ?_
    exact ⟨by rw [HR2.out]; rfl, below_two _ _ _⟩
  · rw [HT.out, if_neg hs] at HC
    have HR2 : Hid _ := HR.out.trans (if_neg hs)
    clear HT HR
    unfold takesV at HC
    simp only [] at HC
    go_enter Tryz.func46, Tryz.ntmps46
    go_wp2_with fail
    refine (HC _).mono ?_
    rintro e w1 ⟨rfl, rfl⟩
    clear HC
    go_wp2
    refine bodyPost_ret (v := .tuple #[.agg #[.bool true, S [], S (clS k.cl)], .bool false]) (by simp [results, Tryz.results46, go_sem]) rfl ?_
    exact ⟨by rw [HR2.out]; exact ⟨_, _, rfl⟩, below_two _ _ _⟩
set_option maxHeartbeats 4000000 in
theorem does12 {b : List UInt8} {a n : Nat} {k : Kn} (hb : b.length ≤ 4000) (hk : k.st.length ≤ 100) (hc : k.cl.length ≤ 255) (h1 : Tys1 k.st) (h2 : Tys k.cl) (ha : a < (ByteArray.mk b.toArray).size) (hop : ((ByteArray.mk b.toArray)[a]).toNat = 12) (w : World) : Calls Tryz.prog 46 #[S b, .int .i64 a, knV k] w fun e w' => DoesAns (doesK 12 n k) e ∧ Below w.heap.size w w' := by
  have ha' : a < b.length := ha
  have hl := stS_len k.st
  have HT : Hid (takesS (stS k.st) (stS [2]) (stS [2]) = if k.st.take 1 = [2] then some (stS ([2] ++ k.st.drop 1)) else none) := takes_st2 (want := [2]) (more := [2]) h1 (by intro t ht; simp at ht; subst ht; decide)
  have HR : Hid (doesK 12 n k = if k.st.take 1 = [2] then some ⟨[2] ++ k.st.drop 1, k.cl⟩ else none) := rfl
  have HC := fun W => takes_any (stS k.st) (stS [2]) (stS [2]) (by omega) (by decide) (by decide) W
  unfold knV
  clear h1 h2
  by_cases hs : k.st.take 1 = [2]
  · rw [HT.out, if_pos hs] at HC
    have HR2 : Hid _ := HR.out.trans (if_pos hs)
    clear HT HR
    unfold takesV at HC
    simp only [] at HC
    go_enter Tryz.func46, Tryz.ntmps46
    go_wp2_with fail
    refine (HC _).mono ?_
    rintro e w1 ⟨rfl, rfl⟩
    clear HC
    go_wp2
    refine bodyPost_ret (v := .tuple #[.agg #[.bool true, S (stS ([2] ++ k.st.drop 1)), S (clS k.cl)], .bool true]) (by simp [results, Tryz.results46, go_sem]) rfl ?_
    exact ⟨by rw [HR2.out]; rfl, below_two _ _ _⟩
  · rw [HT.out, if_neg hs] at HC
    have HR2 : Hid _ := HR.out.trans (if_neg hs)
    clear HT HR
    unfold takesV at HC
    simp only [] at HC
    go_enter Tryz.func46, Tryz.ntmps46
    go_wp2_with fail
    refine (HC _).mono ?_
    rintro e w1 ⟨rfl, rfl⟩
    clear HC
    go_wp2
    refine bodyPost_ret (v := .tuple #[.agg #[.bool true, S [], S (clS k.cl)], .bool false]) (by simp [results, Tryz.results46, go_sem]) rfl ?_
    exact ⟨by rw [HR2.out]; exact ⟨_, _, rfl⟩, below_two _ _ _⟩
set_option maxHeartbeats 4000000 in
theorem does13 {b : List UInt8} {a n : Nat} {k : Kn} (hb : b.length ≤ 4000) (hk : k.st.length ≤ 100) (hc : k.cl.length ≤ 255) (h1 : Tys1 k.st) (h2 : Tys k.cl) (ha : a < (ByteArray.mk b.toArray).size) (hop : ((ByteArray.mk b.toArray)[a]).toNat = 13) (w : World) : Calls Tryz.prog 46 #[S b, .int .i64 a, knV k] w fun e w' => DoesAns (doesK 13 n k) e ∧ Below w.heap.size w w' := by
  have ha' : a < b.length := ha
  have hl := stS_len k.st
  have HT : Hid (takesS (stS k.st) (stS [2, 2]) (stS [2]) = if k.st.take 2 = [2, 2] then some (stS ([2] ++ k.st.drop 2)) else none) := takes_st2 (want := [2, 2]) (more := [2]) h1 (by intro t ht; simp at ht; subst ht; decide)
  have HR : Hid (doesK 13 n k = if k.st.take 2 = [2, 2] then some ⟨[2] ++ k.st.drop 2, k.cl⟩ else none) := rfl
  have HC := fun W => takes_any (stS k.st) (stS [2, 2]) (stS [2]) (by omega) (by decide) (by decide) W
  unfold knV
  clear h1 h2
  by_cases hs : k.st.take 2 = [2, 2]
  · rw [HT.out, if_pos hs] at HC
    have HR2 : Hid _ := HR.out.trans (if_pos hs)
    clear HT HR
    unfold takesV at HC
    simp only [] at HC
    go_enter Tryz.func46, Tryz.ntmps46
    go_wp2_with fail
    refine (HC _).mono ?_
    rintro e w1 ⟨rfl, rfl⟩
    clear HC
    go_wp2
    refine bodyPost_ret (v := .tuple #[.agg #[.bool true, S (stS ([2] ++ k.st.drop 2)), S (clS k.cl)], .bool true]) (by simp [results, Tryz.results46, go_sem]) rfl ?_
    exact ⟨by rw [HR2.out]; rfl, below_two _ _ _⟩
  · rw [HT.out, if_neg hs] at HC
    have HR2 : Hid _ := HR.out.trans (if_neg hs)
    clear HT HR
    unfold takesV at HC
    simp only [] at HC
    go_enter Tryz.func46, Tryz.ntmps46
    go_wp2_with fail
    refine (HC _).mono ?_
    rintro e w1 ⟨rfl, rfl⟩
    clear HC
    go_wp2
    refine bodyPost_ret (v := .tuple #[.agg #[.bool true, S [], S (clS k.cl)], .bool false]) (by simp [results, Tryz.results46, go_sem]) rfl ?_
    exact ⟨by rw [HR2.out]; exact ⟨_, _, rfl⟩, below_two _ _ _⟩
set_option maxHeartbeats 4000000 in
theorem does14 {b : List UInt8} {a n : Nat} {k : Kn} (hb : b.length ≤ 4000) (hk : k.st.length ≤ 100) (hc : k.cl.length ≤ 255) (h1 : Tys1 k.st) (h2 : Tys k.cl) (ha : a < (ByteArray.mk b.toArray).size) (hop : ((ByteArray.mk b.toArray)[a]).toNat = 14) (w : World) : Calls Tryz.prog 46 #[S b, .int .i64 a, knV k] w fun e w' => DoesAns (doesK 14 n k) e ∧ Below w.heap.size w w' := by
  have ha' : a < b.length := ha
  have hl := stS_len k.st
  have HT : Hid (takesS (stS k.st) (stS [2, 2]) (stS [2]) = if k.st.take 2 = [2, 2] then some (stS ([2] ++ k.st.drop 2)) else none) := takes_st2 (want := [2, 2]) (more := [2]) h1 (by intro t ht; simp at ht; subst ht; decide)
  have HR : Hid (doesK 14 n k = if k.st.take 2 = [2, 2] then some ⟨[2] ++ k.st.drop 2, k.cl⟩ else none) := rfl
  have HC := fun W => takes_any (stS k.st) (stS [2, 2]) (stS [2]) (by omega) (by decide) (by decide) W
  unfold knV
  clear h1 h2
  by_cases hs : k.st.take 2 = [2, 2]
  · rw [HT.out, if_pos hs] at HC
    have HR2 : Hid _ := HR.out.trans (if_pos hs)
    clear HT HR
    unfold takesV at HC
    simp only [] at HC
    go_enter Tryz.func46, Tryz.ntmps46
    go_wp2_with fail
    refine (HC _).mono ?_
    rintro e w1 ⟨rfl, rfl⟩
    clear HC
    go_wp2
    refine bodyPost_ret (v := .tuple #[.agg #[.bool true, S (stS ([2] ++ k.st.drop 2)), S (clS k.cl)], .bool true]) (by simp [results, Tryz.results46, go_sem]) rfl ?_
    exact ⟨by rw [HR2.out]; rfl, below_two _ _ _⟩
  · rw [HT.out, if_neg hs] at HC
    have HR2 : Hid _ := HR.out.trans (if_neg hs)
    clear HT HR
    unfold takesV at HC
    simp only [] at HC
    go_enter Tryz.func46, Tryz.ntmps46
    go_wp2_with fail
    refine (HC _).mono ?_
    rintro e w1 ⟨rfl, rfl⟩
    clear HC
    go_wp2
    refine bodyPost_ret (v := .tuple #[.agg #[.bool true, S [], S (clS k.cl)], .bool false]) (by simp [results, Tryz.results46, go_sem]) rfl ?_
    exact ⟨by rw [HR2.out]; exact ⟨_, _, rfl⟩, below_two _ _ _⟩
set_option maxHeartbeats 4000000 in
theorem does15 {b : List UInt8} {a n : Nat} {k : Kn} (hb : b.length ≤ 4000) (hk : k.st.length ≤ 100) (hc : k.cl.length ≤ 255) (h1 : Tys1 k.st) (h2 : Tys k.cl) (ha : a < (ByteArray.mk b.toArray).size) (hop : ((ByteArray.mk b.toArray)[a]).toNat = 15) (w : World) : Calls Tryz.prog 46 #[S b, .int .i64 a, knV k] w fun e w' => DoesAns (doesK 15 n k) e ∧ Below w.heap.size w w' := by
  have ha' : a < b.length := ha
  have hl := stS_len k.st
  have HT : Hid (takesS (stS k.st) (stS [2]) (stS []) = if k.st.take 1 = [2] then some (stS ([] ++ k.st.drop 1)) else none) := takes_st2 (want := [2]) (more := []) h1 (by intro t ht; simp at ht; subst ht; decide)
  have HR : Hid (doesK 15 n k = if k.st.take 1 = [2] then some ⟨[] ++ k.st.drop 1, k.cl⟩ else none) := rfl
  have HC := fun W => takes_any (stS k.st) (stS [2]) (stS []) (by omega) (by decide) (by decide) W
  unfold knV
  clear h1 h2
  by_cases hs : k.st.take 1 = [2]
  · rw [HT.out, if_pos hs] at HC
    have HR2 : Hid _ := HR.out.trans (if_pos hs)
    clear HT HR
    unfold takesV at HC
    simp only [] at HC
    go_enter Tryz.func46, Tryz.ntmps46
    go_wp2_with fail
    refine (HC _).mono ?_
    rintro e w1 ⟨rfl, rfl⟩
    clear HC
    go_wp2
    refine bodyPost_ret (v := .tuple #[.agg #[.bool true, S (stS ([] ++ k.st.drop 1)), S (clS k.cl)], .bool true]) (by simp [results, Tryz.results46, go_sem]) rfl ?_
    exact ⟨by rw [HR2.out]; rfl, below_two _ _ _⟩
  · rw [HT.out, if_neg hs] at HC
    have HR2 : Hid _ := HR.out.trans (if_neg hs)
    clear HT HR
    unfold takesV at HC
    simp only [] at HC
    go_enter Tryz.func46, Tryz.ntmps46
    go_wp2_with fail
    refine (HC _).mono ?_
    rintro e w1 ⟨rfl, rfl⟩
    clear HC
    go_wp2
    refine bodyPost_ret (v := .tuple #[.agg #[.bool true, S [], S (clS k.cl)], .bool false]) (by simp [results, Tryz.results46, go_sem]) rfl ?_
    exact ⟨by rw [HR2.out]; exact ⟨_, _, rfl⟩, below_two _ _ _⟩
end Go.Proofs.YtfkdailfcmnjlaaGreatDoor

namespace Go.Proofs.YtfkdailfcmnjlaaGreatDoor
open Go Go.RowKit
set_option maxRecDepth 100000
attribute [local go_sem ↓] Go.wp_at_zero Go.wp_at_succ

theorem field_letter {n : Nat} (h : n ≤ 8) : (BA [110, 110, 110, 110, 109, 109, 109, 116, 116]).extract n (n + 1) = BA [tyC (fieldTy n)] := by
  have e : n = 0 ∨ n = 1 ∨ n = 2 ∨ n = 3 ∨ n = 4 ∨ n = 5 ∨ n = 6 ∨ n = 7 ∨ n = 8 := by omega
  rcases e with rfl | rfl | rfl | rfl | rfl | rfl | rfl | rfl | rfl <;> rfl
theorem ba_at (l : List UInt8) (i : Nat) (h : i < (ByteArray.mk l.toArray).size) : ((ByteArray.mk l.toArray)[i]).toNat = (l.getD i 0).toNat := by
  have h' : i < l.length := h
  show (l.toArray[i]).toNat = _
  rw [List.getD_eq_getElem?_getD, List.getElem?_eq_getElem h']; rfl
theorem cl_set (cl : List Nat) {n : Nat} (h : n < cl.length) (t : Nat) : clS (cl.set n t) = cut (clS cl) 0 n ++ [tyC t] ++ cut (clS cl) (n + 1) cl.length := by
  have e : cut (clS cl) (n + 1) cl.length = (clS cl).drop (n + 1) := by unfold cut; exact List.take_of_length_le (by rw [List.length_drop, clS_len]; omega)
  rw [e]
  unfold cut clS
  rw [List.set_eq_take_append_cons_drop, if_pos h]
  simp [List.map_take, List.map_drop]
theorem st_cut0 (t : Nat) (r : List Nat) : cut (stS (t :: r)) 0 r.length = stS r := by
  unfold cut; rw [stS_cons]; simp [stS_len, List.take_append_of_le_length]
theorem st_cut1 (t : Nat) (r : List Nat) : cut (stS (t :: r)) r.length (r.length + 1) = [tyC t] := by
  unfold cut; rw [stS_cons, List.drop_append_of_le_length (by rw [stS_len]; omega), List.drop_of_length_le (by rw [stS_len]; omega)]; simp
theorem cl_cut1 (cl : List Nat) {n : Nat} (h : n < cl.length) : cut (clS cl) n (n + 1) = [tyC (cl.getD n 0)] := by
  have h' : n < (clS cl).length := by rw [clS_len]; exact h
  unfold cut; rw [List.drop_eq_getElem_cons h']
  simp [clS, List.getD_eq_getElem?_getD, List.getElem?_eq_getElem h]
theorem cl_getD (cl : List Nat) {n : Nat} (h : n < cl.length) : (clS cl).getD n 0 = tyC (cl.getD n 0) := by
  simp [clS, List.getD_eq_getElem?_getD, List.getElem?_eq_getElem h]
theorem st_top (t : Nat) (r : List Nat) : (stS (t :: r)).getD r.length 0 = tyC t := by
  rw [stS_cons, List.getD_eq_getElem?_getD, List.getElem?_append_right (by rw [stS_len]; omega), stS_len]; simp
theorem st_sec (t u : Nat) (r : List Nat) : (stS (t :: u :: r)).getD r.length 0 = tyC u := by
  rw [stS_cons, stS_cons, List.getD_eq_getElem?_getD, List.getElem?_append_left (by rw [List.length_append, stS_len]; simp), List.getElem?_append_right (by rw [stS_len]; omega), stS_len]; simp
theorem tyC_zero {t : Nat} (h : t < 4) : tyC t = 45 ↔ t = 0 := by
  have e : t = 0 ∨ t = 1 ∨ t = 2 ∨ t = 3 := by omega
  rcases e with rfl | rfl | rfl | rfl <;> decide
theorem Tys.getD {l : List Nat} (h : Tys l) (n : Nat) : l.getD n 0 < 4 := by
  rw [List.getD_eq_getElem?_getD]
  cases e : l[n]? with
  | none => decide
  | some v => exact h v (List.mem_of_getElem? e)
set_option maxHeartbeats 4000000 in
theorem does4 {b : List UInt8} {a n : Nat} {k : Kn} (hb : b.length ≤ 4000) (hk : k.st.length ≤ 100) (hc : k.cl.length ≤ 255) (h1 : Tys1 k.st) (h2 : Tys k.cl) (ha : a < (ByteArray.mk b.toArray).size) (hop : ((ByteArray.mk b.toArray)[a]).toNat = 4) (ha1 : a + 1 < (ByteArray.mk b.toArray).size) (hn : ((ByteArray.mk b.toArray)[a + 1]).toNat = n) (hn8 : n ≤ 8) (w : World) : Calls Tryz.prog 46 #[S b, .int .i64 a, knV k] w fun e w' => DoesAns (doesK 4 n k) e ∧ Below w.heap.size w w' := by
  have ha' : a < b.length := ha
  have hl := stS_len k.st
  unfold knV
  clear h1 h2
  have hn9 : (n : Int) + 1 ≤ 9 := by omega
  have hw : IntKind.u8.wrap ((n : Int) + 1) = n + 1 := by unfold IntKind.wrap; simp [IntKind.signed, IntKind.bits]; omega
  have q2 : a + 1 < b.length := ha1
  have q0 : (0 : Int) ≤ (a : Int) + 1 := by omega
  have q1 : (a : Int) + 1 < (b.length : Int) := by omega
  have q3 : (0 : Int) ≤ (a : Int) + 1 ∧ (a : Int) + 1 < (b.length : Int) := ⟨q0, q1⟩
  have HF : Hid _ := field_letter hn8
  have HR : Hid (doesK 4 n k = some ⟨fieldTy n :: k.st, k.cl⟩ ∧ S (stS (fieldTy n :: k.st)) = Value.string (BA (stS k.st) ++ BA [tyC (fieldTy n)])) := ⟨rfl, by rw [stS_cons, app_ba]⟩
  go_enter Tryz.func46, Tryz.ntmps46
  go_wp2_with fail
  go_region
  go_wp2
  refine bodyPost_ret (v := .tuple #[.agg #[.bool true, .string (BA (stS k.st) ++ (BA [110, 110, 110, 110, 109, 109, 109, 116, 116]).extract n (n + 1)), S (clS k.cl)], .bool true]) (by simp [results, Tryz.results46, go_sem]) rfl ?_
  exact ⟨by rw [HR.out.1]; show _ = _; rw [knV, HR.out.2, ← HF.out], (below_two _ _ _).drew⟩
set_option maxHeartbeats 4000000 in
theorem does5 {b : List UInt8} {a n : Nat} {k : Kn} (hb : b.length ≤ 4000) (hk : k.st.length ≤ 100) (hc : k.cl.length ≤ 255) (h1 : Tys1 k.st) (h2 : Tys k.cl) (ha : a < (ByteArray.mk b.toArray).size) (hop : ((ByteArray.mk b.toArray)[a]).toNat = 5) (ha1 : a + 1 < (ByteArray.mk b.toArray).size) (hn : ((ByteArray.mk b.toArray)[a + 1]).toNat = n) (hnc : n < k.cl.length) (w : World) : Calls Tryz.prog 46 #[S b, .int .i64 a, knV k] w fun e w' => DoesAns (doesK 5 n k) e ∧ Below w.heap.size w w' := by
  have ha' : a < b.length := ha
  obtain ⟨st, cl⟩ := k
  simp only [] at *
  have q2 : a + 1 < b.length := ha1
  have q0 : (0 : Int) ≤ (a : Int) + 1 := by omega
  have q1 : (a : Int) + 1 < (b.length : Int) := by omega
  have q3 : (0 : Int) ≤ (a : Int) + 1 ∧ (a : Int) + 1 < (b.length : Int) := ⟨q0, q1⟩
  have q4 : (0 : Int) ≤ (n : Int) ∧ (n : Int) ≤ (cl.length : Int) := by omega
  have q7 : (0 : Int) ≤ (n : Int) + 1 ∧ (n : Int) + 1 ≤ (cl.length : Int) := by omega
  cases st with
  | nil =>
    have hl := stS_len []
    have HR : Hid (doesK 5 n ⟨[], cl⟩ = none) := rfl
    unfold knV
    clear h1 h2
    go_enter Tryz.func46, Tryz.ntmps46
    go_wp2
    refine bodyPost_ret (v := .tuple #[.agg #[.bool true, S (stS []), S (clS cl)], .bool false]) (by simp [results, Tryz.results46, go_sem]) rfl ?_
    exact ⟨by rw [HR.out]; exact ⟨_, _, rfl⟩, below_two _ _ _⟩
  | cons t r =>
    have hl : (stS (t :: r)).length = r.length + 1 := stS_len (t :: r)
    have hl2 := clS_len cl
    have hk' : r.length + 1 ≤ 100 := hk
    have q5 : ((r.length : Int) + 1 == 0) = false := by simp; omega
    have q6 : (0 : Int) ≤ (r.length : Int) + 1 - 1 ∧ (r.length : Int) + 1 - 1 ≤ (r.length : Int) + 1 := by omega
    have q8 : (0 : Int) ≤ (r.length : Int) ∧ (r.length : Int) ≤ (r.length : Int) + 1 := by omega
    have HR : Hid (doesK 5 n ⟨t :: r, cl⟩ = some ⟨r, cl.set n t⟩ ∧ S (stS r) = .string ((BA (stS (t :: r))).extract 0 r.length) ∧ S (clS (cl.set n t)) = .string ((BA (clS cl)).extract 0 n ++ (BA (stS (t :: r))).extract r.length (r.length + 1) ++ (BA (clS cl)).extract (n + 1) cl.length)) := by
      refine ⟨rfl, ?_, ?_⟩
      · rw [cut_ex, st_cut0]
      · rw [cut_ex, cut_ex, cut_ex, app_ba, app_ba, st_cut1, cl_set cl hnc]
    unfold knV
    clear h1 h2 hk
    simp only []
    go_enter Tryz.func46, Tryz.ntmps46
    go_wp2_with fail
    go_region
    go_wp2
    refine bodyPost_ret (v := .tuple #[.agg #[.bool true, .string ((BA (stS (t :: r))).extract 0 r.length), .string ((BA (clS cl)).extract 0 n ++ (BA (stS (t :: r))).extract r.length (r.length + 1) ++ (BA (clS cl)).extract (n + 1) cl.length)], .bool true]) (by simp [results, Tryz.results46, go_sem]) rfl ?_
    exact ⟨by rw [HR.out.1]; show _ = _; rw [knV, HR.out.2.1, HR.out.2.2], (below_two _ _ _).drew⟩
set_option maxHeartbeats 4000000 in
theorem does6 {b : List UInt8} {a n : Nat} {k : Kn} (hb : b.length ≤ 4000) (hk : k.st.length ≤ 100) (hc : k.cl.length ≤ 255) (h1 : Tys1 k.st) (h2 : Tys k.cl) (ha : a < (ByteArray.mk b.toArray).size) (hop : ((ByteArray.mk b.toArray)[a]).toNat = 6) (ha1 : a + 1 < (ByteArray.mk b.toArray).size) (hn : ((ByteArray.mk b.toArray)[a + 1]).toNat = n) (hnc : n < k.cl.length) (w : World) : Calls Tryz.prog 46 #[S b, .int .i64 a, knV k] w fun e w' => DoesAns (doesK 6 n k) e ∧ Below w.heap.size w w' := by
  have ha' : a < b.length := ha
  have hl := stS_len k.st
  have hl2 := clS_len k.cl
  have q2 : a + 1 < b.length := ha1
  have q0 : (0 : Int) ≤ (a : Int) + 1 := by omega
  have q1 : (a : Int) + 1 < (b.length : Int) := by omega
  have q3 : (0 : Int) ≤ (a : Int) + 1 ∧ (a : Int) + 1 < (b.length : Int) := ⟨q0, q1⟩
  have q4 : (0 : Int) ≤ (n : Int) ∧ (n : Int) ≤ (k.cl.length : Int) := by omega
  have q7 : (0 : Int) ≤ (n : Int) + 1 ∧ (n : Int) + 1 ≤ (k.cl.length : Int) := by omega
  have hsz : n < (ByteArray.mk (clS k.cl).toArray).size := by rw [← hl2] at hnc; exact hnc
  have hv := ba_at (clS k.cl) n hsz
  rw [cl_getD k.cl hnc] at hv
  have HS : Hid (S (stS (k.cl.getD n 0 :: k.st)) = .string (BA (stS k.st) ++ (BA (clS k.cl)).extract n (n + 1))) := by show _ = _; rw [cut_ex, app_ba, cl_cut1 k.cl hnc, stS_cons]
  have HR : Hid (doesK 6 n k = if k.cl.getD n 0 = 0 then none else some ⟨k.cl.getD n 0 :: k.st, k.cl⟩) := rfl
  have h4 := h2.getD n
  unfold knV
  by_cases h0 : k.cl.getD n 0 = 0
  · have HR2 : Hid _ := HR.out.trans (if_pos h0)
    rw [h0] at hv
    have hv' : ((ByteArray.mk (clS k.cl).toArray)[n]).toNat = 45 := hv
    clear h1 h2 HR hv h0 h4
    go_enter Tryz.func46, Tryz.ntmps46
    go_wp2_with fail
    go_region
    go_wp2
    refine bodyPost_ret (v := .tuple #[.agg #[.bool true, .string (BA (stS k.st) ++ (BA (clS k.cl)).extract n (n + 1)), S (clS k.cl)], .bool false]) (by simp [results, Tryz.results46, go_sem]) rfl ?_
    exact ⟨by rw [HR2.out]; exact ⟨_, _, rfl⟩, (below_two _ _ _).drew⟩
  · have HR2 : Hid _ := HR.out.trans (if_neg h0)
    have hne : tyC (k.cl.getD n 0) ≠ 45 := fun e => h0 ((tyC_zero h4).1 e)
    have hv' : ((((ByteArray.mk (clS k.cl).toArray)[n]).toNat : Int) != 45) = true := by
      rw [hv]
      have : (tyC (k.cl.getD n 0)).toNat ≠ 45 := fun e => hne (UInt8.toNat_inj.1 e)
      generalize (tyC (k.cl.getD n 0)).toNat = z at *
      simp; omega
    clear h1 h2 HR hv h0 h4 hne
    go_enter Tryz.func46, Tryz.ntmps46
    go_wp2_with fail
    go_region
    go_wp2
    refine bodyPost_ret (v := .tuple #[.agg #[.bool true, .string (BA (stS k.st) ++ (BA (clS k.cl)).extract n (n + 1)), S (clS k.cl)], .bool true]) (by simp [results, Tryz.results46, go_sem]) rfl ?_
    exact ⟨by rw [HR2.out]; show _ = _; rw [knV, HS.out], (below_two _ _ _).drew⟩
set_option maxHeartbeats 4000000 in
theorem does9 {b : List UInt8} {a n : Nat} {k : Kn} (hb : b.length ≤ 4000) (hk : k.st.length ≤ 100) (hc : k.cl.length ≤ 255) (h1 : Tys1 k.st) (h2 : Tys k.cl) (ha : a < (ByteArray.mk b.toArray).size) (hop : ((ByteArray.mk b.toArray)[a]).toNat = 9) (w : World) : Calls Tryz.prog 46 #[S b, .int .i64 a, knV k] w fun e w' => DoesAns (doesK 9 n k) e ∧ Below w.heap.size w w' := by
  have ha' : a < b.length := ha
  obtain ⟨st, cl⟩ := k
  simp only [] at *
  have hl2 := clS_len cl
  match st, hk, h1 with
  | [], _, _ =>
    have hl : (stS []).length = 0 := rfl
    have HR : Hid (doesK 9 n ⟨[], cl⟩ = none) := rfl
    unfold knV
    clear h2
    go_enter Tryz.func46, Tryz.ntmps46
    go_wp2_with fail
    go_region
    go_wp2
    refine bodyPost_ret (v := .tuple #[.agg #[.bool true, S (stS []), S (clS cl)], .bool false]) (by simp [results, Tryz.results46, go_sem]) rfl ?_
    exact ⟨by rw [HR.out]; exact ⟨_, _, rfl⟩, (below_two _ _ _).drew⟩
  | [t], _, _ =>
    have hl : (stS [t]).length = 1 := rfl
    have HR : Hid (doesK 9 n ⟨[t], cl⟩ = none) := rfl
    unfold knV
    clear h2
    go_enter Tryz.func46, Tryz.ntmps46
    go_wp2_with fail
    go_region
    go_wp2
    refine bodyPost_ret (v := .tuple #[.agg #[.bool true, S (stS [t]), S (clS cl)], .bool false]) (by simp [results, Tryz.results46, go_sem]) rfl ?_
    exact ⟨by rw [HR.out]; exact ⟨_, _, rfl⟩, (below_two _ _ _).drew⟩
  | t :: u :: r, hk, h1 =>
    have hl : (stS (t :: u :: r)).length = r.length + 1 + 1 := stS_len _
    have hk' : r.length + 1 + 1 ≤ 100 := hk
    have hs1 : r.length + 1 < (ByteArray.mk (stS (t :: u :: r)).toArray).size := by show r.length + 1 < (stS (t :: u :: r)).length; omega
    have hs2 : r.length < (ByteArray.mk (stS (t :: u :: r)).toArray).size := by show r.length < (stS (t :: u :: r)).length; omega
    have v1 := ba_at (stS (t :: u :: r)) (r.length + 1) hs1
    have v2 := ba_at (stS (t :: u :: r)) r.length hs2
    have et : (stS (t :: u :: r)).getD (r.length + 1) 0 = tyC t := st_top t (u :: r)
    rw [et] at v1
    rw [st_sec t u r] at v2
    have q1 : (0 : Int) ≤ (r.length : Int) + 1 + 1 - 1 ∧ (r.length : Int) + 1 + 1 - 1 < (r.length : Int) + 1 + 1 := by omega
    have q2 : (0 : Int) ≤ (r.length : Int) + 1 + 1 - 2 ∧ (r.length : Int) + 1 + 1 - 2 < (r.length : Int) + 1 + 1 := by omega
    have q3 : (2 : Int) ≤ (r.length : Int) + 1 + 1 := by omega
    have q4 : (0 : Int) ≤ (r.length : Int) + 1 + 1 - 2 ∧ (r.length : Int) + 1 + 1 - 2 ≤ (r.length : Int) + 1 + 1 := by omega
    have HR : Hid (doesK 9 n ⟨t :: u :: r, cl⟩ = if t = u then some ⟨2 :: r, cl⟩ else none) := rfl
    have HS : Hid (S (stS (2 :: r)) = .string ((BA (stS (t :: u :: r))).extract 0 r.length ++ BA [116])) := by
      show _ = _
      rw [cut_ex, app_ba, stS_cons]
      unfold cut
      rw [stS_cons, stS_cons, List.append_assoc]
      simp [stS_len]; rfl
    by_cases e : t = u
    · subst e
      have HR2 : Hid _ := HR.out.trans (if_pos rfl)
      unfold knV
      clear h1 h2 HR hk
      generalize (tyC t).toNat = z at *
      simp only []
      go_enter Tryz.func46, Tryz.ntmps46
      go_wp2_with fail
      go_region
      go_wp2
      refine bodyPost_ret (v := .tuple #[.agg #[.bool true, .string ((BA (stS (t :: t :: r))).extract 0 r.length ++ BA [116]), S (clS cl)], .bool true]) (by simp [results, Tryz.results46, go_sem]) rfl ?_
      exact ⟨by rw [HR2.out]; show _ = _; rw [knV, HS.out], (below_two _ _ _).drew⟩
    · have HR2 : Hid _ := HR.out.trans (if_neg e)
      have hne : ((((tyC t).toNat : Int)) == ((tyC u).toNat : Int)) = false := by
        have : (tyC t).toNat ≠ (tyC u).toNat := fun e' => e (tyC_inj (h1 t (by simp)).2 (h1 u (by simp)).2 (UInt8.toNat_inj.1 e'))
        simp; omega
      unfold knV
      clear h1 h2 HR hk e HS
      generalize (tyC t).toNat = z at *
      generalize (tyC u).toNat = y at *
      simp only []
      go_enter Tryz.func46, Tryz.ntmps46
      go_wp2_with fail
      go_region
      go_wp2
      refine bodyPost_ret (v := .tuple #[.agg #[.bool true, S (stS (t :: u :: r)), S (clS cl)], .bool false]) (by simp [results, Tryz.results46, go_sem]) rfl ?_
      exact ⟨by rw [HR2.out]; exact ⟨_, _, rfl⟩, (below_two _ _ _).drew⟩
end Go.Proofs.YtfkdailfcmnjlaaGreatDoor
