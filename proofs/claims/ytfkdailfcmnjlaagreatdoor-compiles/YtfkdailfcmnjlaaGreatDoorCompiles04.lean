/-
  The reference's small functions of lists of words answer as plain Lean functions do.
-/
import Derived.Test.YtfkdailfcmnjlaaGreatDoorCompiles01
import Derived.Test.YtfkdailfcmnjlaaGreatDoorProg
import Derived.WalkKit
import Derived.Deep.QuietTactic
import Derived.BigQuiet
import Derived.WalkSpells
set_option linter.unusedVariables false
set_option linter.unusedSimpArgs false
namespace Go.Proofs.YtfkdailfcmnjlaaGreatDoor
open Go Go.RowKit
set_option maxRecDepth 100000

abbrev S (l : List UInt8) : Value := .string ⟨l.toArray⟩

set_option maxHeartbeats 400000 in
theorem index_any (ss : List (List UInt8)) (s : List UInt8) (b : Nat) (w : World) (hl : ss.length ≤ 1000)
    (hc : ∀ i, i < ss.length → w.cell? ⟨b, i, none⟩ = some (S (ss.getD i []))) :
    Calls Tryz.prog 87 #[.slice (some ⟨b, 0, none⟩) ss.length ss.length, S s] w fun e w' => e = .returned (.int .i64 (idx ss s)) ∧ w' = w := by
  go_enter Tryz.func87, Tryz.ntmps87
  go_wp2
  go_loop [5] (fun i => ∃ k : Nat, k ≤ ss.length ∧ i = .int .i64 k ∧ idx ss s = (if idx (ss.drop k) s < 0 then -1 else idx (ss.drop k) s + k)) (fun i => ss.length - (intOf i).toNat)
  case atStart =>
    refine ⟨0, Nat.zero_le _, rfl, ?_⟩
    have := idx_ge ss s
    simp; omega
  case round =>
    obtain ⟨k, hk, rfl, hi⟩ := hrel
    have hd := idx_drop ss s k
    have H : Hid _ := hi
    have HD : Hid _ := hd
    clear hi hd
    have hcell : k < ss.length → w.cell? ⟨b, k, none⟩ = some (S (ss.getD k [])) := fun h => hc k h
    go_wp2
    · go_ret
      have hd := HD.out ‹_›
      refine ⟨?_, rfl⟩
      rw [H.out, hd]
      simp [*]
    · refine ⟨⟨k + 1, by omega, by go_num, ?_⟩, by simp [intOf]; omega⟩
      rw [H.out, HD.out ‹_›]
      have := idx_ge (ss.drop (k + 1)) s
      simp [*]
      split <;> omega
    · go_ret
      refine ⟨?_, rfl⟩
      rw [H.out, List.drop_of_length_le (by omega)]
      simp [idx]
theorem ret_bool {a b : Bool} (h : a = b) : Ending.returned (.bool a) = .returned (.bool b) := by rw [h]
theorem ret_int {k : IntKind} {a b : Int} (h : a = b) : Ending.returned (.int k a) = .returned (.int k b) := by rw [h]

/-- A new slice of these strings. -/
def NewStrs (l : List (List UInt8)) (e : Ending) (w w' : World) : Prop :=
  ∃ b, e = .returned (.slice (some ⟨b, 0, none⟩) l.length l.length) ∧ (∀ i, i < l.length → w'.cell? ⟨b, i, none⟩ = some (S (l.getD i []))) ∧ Below w.heap.size w w' ∧ w.heap.size ≤ b ∧ b < w'.heap.size

theorem newStrs_alloc (w : World) (l : List (List UInt8)) (cs : Array Value) (v : Value) (hv : v = .slice (some ⟨w.heap.size, 0, none⟩) l.length l.length) (h : cs = (l.map S).toArray) :
    NewStrs l (.returned v) w (w.alloc (.cells cs 9)) := by
  subst h hv
  refine ⟨w.heap.size, rfl, ?_, (Below.refl _ _).alloc (Nat.le_refl _) _, Nat.le_refl _, by simp⟩
  intro i hi
  simp [hi]

set_option maxHeartbeats 400000 in
theorem members_any (w : World) : Calls Tryz.prog 89 #[] w (fun e w' => NewStrs kMembers e w w') := by
  go_enter Tryz.func89, Tryz.ntmps89
  go_wp2
  go_ret
  exact newStrs_alloc w kMembers _ _ rfl rfl
set_option maxHeartbeats 400000 in
theorem fields_any (w : World) : Calls Tryz.prog 88 #[] w (fun e w' => NewStrs kFields e w w') := by
  go_enter Tryz.func88, Tryz.ntmps88
  go_wp2
  go_ret
  exact newStrs_alloc w kFields _ _ rfl rfl
set_option maxHeartbeats 400000 in
theorem others_any (w : World) : Calls Tryz.prog 219 #[] w (fun e w' => NewStrs kOthers e w w') := by
  go_enter Tryz.func219, Tryz.ntmps219
  go_wp2
  go_ret
  exact newStrs_alloc w kOthers _ _ rfl rfl

set_option maxHeartbeats 400000 in
theorem isKeyword_any (s : List UInt8) (w : World) : Calls Tryz.prog 158 #[S s] w (fun e w' => e = .returned (.bool (isKw s)) ∧ Below w.heap.size w w') := by
  go_enter Tryz.func158, Tryz.ntmps158
  go_wp2_with fail
  refine (members_any _).mono ?_
  rintro e w1 ⟨b1, rfl, hc1, hb1, hl1, hs1⟩
  go_wp2_with fail
  refine (index_any kMembers s b1 w1 (by decide) hc1).mono ?_
  rintro e w1 ⟨rfl, rfl⟩
  go_wp2_with fail
  refine (fields_any _).mono ?_
  rintro e w2 ⟨b2, rfl, hc2, hb2, hl2, hs2⟩
  go_wp2_with fail
  refine (index_any kFields s b2 w2 (by decide) hc2).mono ?_
  rintro e w2 ⟨rfl, rfl⟩
  go_wp2_with fail
  refine (others_any _).mono ?_
  rintro e w3 ⟨b3, rfl, hc3, hb3, hl3, hs3⟩
  go_wp2_with fail
  refine (index_any kOthers s b3 w3 (by decide) hc3).mono ?_
  rintro e w3 ⟨rfl, rfl⟩
  have hb : Below w.heap.size w w3 := hb1.trans ((hb2.mono hb1.size).trans (hb3.mono (Nat.le_trans hb1.size hb2.size)))
  clear hc1 hc2 hc3
  have i1 := idx_ge kMembers s
  have i2 := idx_ge kFields s
  have i3 := idx_ge kOthers s
  generalize h1 : idx kMembers s = m1 at *
  generalize h2 : idx kFields s = m2 at *
  generalize h3 : idx kOthers s = m3 at *
  have H : Hid (isKw s = (decide (0 ≤ m1) || decide (0 ≤ m2) || decide (0 ≤ m3))) := by show _ = _; rw [← h1, ← h2, ← h3]; rfl
  clear h1 h2 h3
  go_wp2
  all_goals go_ret
  all_goals refine ⟨?_, hb⟩
  all_goals exact ret_bool (by rw [H.out] <;> simp [*])
end Go.Proofs.YtfkdailfcmnjlaaGreatDoor
