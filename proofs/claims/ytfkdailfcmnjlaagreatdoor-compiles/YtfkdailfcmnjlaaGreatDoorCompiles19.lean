/-
  A condition in the program's memory; the joining words. Types of parts: as the program numbers them, by kinds of words. What a condition tells: plain Lean functions; a condition of a type tells a value of it. Codes: plain Lean functions that say what the document asks of bytes (instructions, what is known at each, the machine). Codes: what is known of the instructions that bytes are; a code that may be one never goes wrong. Codes: a code that may be one never goes wrong, and ends within as many steps as it has instructions. Codes: with an instruction behind it that is not whole, a code is none.
-/
import Derived.Test.YtfkdailfcmnjlaaGreatDoorCompiles01
import Derived.Test.YtfkdailfcmnjlaaGreatDoorCompiles02
import Derived.Test.YtfkdailfcmnjlaaGreatDoorCompiles04
import Derived.Test.YtfkdailfcmnjlaaGreatDoorCompiles05
import Derived.Test.YtfkdailfcmnjlaaGreatDoorCompiles06
import Derived.Test.YtfkdailfcmnjlaaGreatDoorCompiles07
import Derived.Test.YtfkdailfcmnjlaaGreatDoorCompiles08
import Derived.Test.YtfkdailfcmnjlaaGreatDoorCompiles09
import Derived.Test.YtfkdailfcmnjlaaGreatDoorCompiles10
import Derived.Test.YtfkdailfcmnjlaaGreatDoorCompiles11
import Derived.Test.YtfkdailfcmnjlaaGreatDoorCompiles12
import Derived.Test.YtfkdailfcmnjlaaGreatDoorCompiles13
import Derived.Test.YtfkdailfcmnjlaaGreatDoorCompiles14
import Derived.Test.YtfkdailfcmnjlaaGreatDoorCompiles15
import Derived.Test.YtfkdailfcmnjlaaGreatDoorCompiles16
import Derived.Test.YtfkdailfcmnjlaaGreatDoorCompiles17
import Derived.Test.YtfkdailfcmnjlaaGreatDoorCompiles18
import Derived.Test.YtfkdailfcmnjlaaGreatDoorLays
import Derived.WalkKit
import Derived.Deep.QuietTactic
import Derived.BigQuiet
import Derived.WalkSpells
import GoSem.Op.String
import Derived.Deep.AppendLies
import Derived.Deep.RegionHeld3
import Derived.Deep.DrawnRows
import Derived.Deep.RegionHeldLaw
import Derived.Deep.RegionLaw
import Derived.Lib.ParseIntBCases
set_option linter.unusedVariables false
set_option linter.unusedSimpArgs false
namespace Go.Proofs.YtfkdailfcmnjlaaGreatDoor
open Go Go.RowKit
set_option maxRecDepth 100000

/-- The kinds that join at a level, as the program lists them. -/
def joinK (n : Nat) : List Nat := if n = 0 then [17] else if n = 1 then [18] else if n = 3 then [8, 10, 9] else [6, 7]
theorem join_texts : ∀ n, n ≤ 4 → ∀ x ∈ spell.drop 3, decide (0 ≤ idx (signsOf n) x) = (joinK n).contains (kn x) := by
  intro n hn
  have h : ∀ n : Fin 5, ∀ x ∈ spell.drop 3, decide (0 ≤ idx (signsOf n.1) x) = (joinK n.1).contains (kn x) := by decide
  exact h ⟨n, by omega⟩
theorem joinK_small : ∀ n, n ≤ 4 → ∀ x ∈ joinK n, 3 ≤ x := by
  intro n hn
  have h : ∀ n : Fin 5, ∀ x ∈ joinK n.1, 3 ≤ x := by decide
  exact h ⟨n, by omega⟩
theorem joins_iff {n : Nat} (hn : n ≤ 4) {t : Tok} (h : TokW t) : joins n t = (joinK n).contains (kindOf t) := by
  have hno : ∀ k, k < 3 → (joinK n).contains k = false := fun k hk => by
    rw [Bool.eq_false_iff]; intro e; rw [List.contains_iff_mem] at e
    have := joinK_small n hn k e; omega
  unfold joins
  rcases h.cases with h | h | h | ⟨h, hm⟩
  · rw [show kindOf t = 1 from by unfold kindOf; rw [if_pos h], hno 1 (by omega), h]; simp
  · rw [show kindOf t = 2 from by unfold kindOf; rw [if_neg (by omega), if_pos h], hno 2 (by omega), h]; simp
  · rw [show kindOf t = 0 from by unfold kindOf; rw [if_neg (by omega), if_neg (by omega), if_pos h], hno 0 (by omega), h]; simp
  · rw [kind_word h, ← join_texts n hn _ hm]
    rcases h with h | h <;> rw [h] <;> simp

/-- A condition's block. -/
def cdObj (t : Tok) (u : Value) (n : Int) : Obj := .cells #[.int .i64 (kindOf t), .int .i64 t.pl, .int .i64 (nmOf t), S (ownOf t), u, .int .i64 n] 229 (0, 0)
/-- The list of what stands under a condition. -/
def UnderAt (w : World) (u : Value) (n : Nat) (bl : Nat → Nat) : Prop :=
  (n = 0 ∧ u = .slice none 0 0) ∨ (0 < n ∧ ∃ g, u = .slice (some ⟨g, 0, none⟩) n n ∧ w.heap[g]? = some (.cells ((List.range n).map fun j => Value.pointer (some ⟨bl j, 0, none⟩)).toArray 161 (0, 0)))

/-- The part of a list lies at a block, not below a bound, as the program's tree. -/
structure CondAt (L : List Pt) (lt : Nat) (w : World) (i b : Nat) : Prop where
  lay ::
  out : ∀ C : Nat → Nat → Prop, (∀ (i b : Nat) (u : Value) (bl : Nat → Nat), i < L.length → lt ≤ b → w.heap[b]? = some (cdObj (L.getD i noPt).tok u 0) → UnderAt w u (L.getD i noPt).subs.length bl →
    (∀ j, j < (L.getD i noPt).subs.length → (L.getD i noPt).subs.getD j 0 < i) → (∀ j, j < (L.getD i noPt).subs.length → C ((L.getD i noPt).subs.getD j 0) (bl j)) → C i b) → C i b
theorem CondAt.mk {L : List Pt} {lt : Nat} {w : World} (i b : Nat) (u : Value) (bl : Nat → Nat) (hi : i < L.length) (hlo : lt ≤ b) (hb : w.heap[b]? = some (cdObj (L.getD i noPt).tok u 0))
    (hu : UnderAt w u (L.getD i noPt).subs.length bl) (hlt : ∀ j, j < (L.getD i noPt).subs.length → (L.getD i noPt).subs.getD j 0 < i)
    (hs : ∀ j, j < (L.getD i noPt).subs.length → CondAt L lt w ((L.getD i noPt).subs.getD j 0) (bl j)) : CondAt L lt w i b :=
  ⟨fun C hC => hC i b u bl hi hlo hb hu hlt fun j hj => (hs j hj).out C hC⟩
theorem CondAt.ind {L : List Pt} {lt : Nat} {w : World} (M : Nat → Nat → Prop)
    (hM : ∀ (i b : Nat) (u : Value) (bl : Nat → Nat), i < L.length → lt ≤ b → w.heap[b]? = some (cdObj (L.getD i noPt).tok u 0) → UnderAt w u (L.getD i noPt).subs.length bl →
      (∀ j, j < (L.getD i noPt).subs.length → (L.getD i noPt).subs.getD j 0 < i) → (∀ j, j < (L.getD i noPt).subs.length → CondAt L lt w ((L.getD i noPt).subs.getD j 0) (bl j)) → (∀ j, j < (L.getD i noPt).subs.length → M ((L.getD i noPt).subs.getD j 0) (bl j)) → M i b)
    {i b : Nat} (h : CondAt L lt w i b) : M i b :=
  (h.out (fun i b => CondAt L lt w i b ∧ M i b) fun i b u bl hi hlo hb hu hlt hs => ⟨.mk i b u bl hi hlo hb hu hlt fun j hj => (hs j hj).1, hM i b u bl hi hlo hb hu hlt (fun j hj => (hs j hj).1) fun j hj => (hs j hj).2⟩).2

/-- The tree stays where no block of conditions or of lists of them turns. -/
theorem CondAt.keep {L : List Pt} {lt : Nat} {w w' : World} {i b : Nat} (h : CondAt L lt w i b)
    (hk : ∀ (k : Nat) (cs : Array Value) (ty : TypeId), w.heap[k]? = some (Obj.cells cs ty (0, 0)) → ty = 229 ∨ ty = 161 → w'.heap[k]? = w.heap[k]?) : CondAt L lt w' i b := by
  refine h.ind (fun i b => CondAt L lt w' i b) ?_
  · intro i b u bl hi hlo hb hu hlt hs ih
    refine .mk i b u bl hi hlo ?_ ?_ hlt ih
    · rw [hk b _ _ hb (.inl rfl)]; exact hb
    · rcases hu with hu | ⟨h0, g, h1, h2⟩
      · exact .inl hu
      · exact .inr ⟨h0, g, h1, by rw [hk g _ _ h2 (.inr rfl)]; exact h2⟩
theorem CondAt.pf {L : List Pt} {lt : Nat} {rb gl cl : Nat} {ts : List Tok} {s : Q} {w w' : World} {i b : Nat} (h : CondAt L lt w i b) (hr : RR rb gl cl ts s w) (hf : PF rb w w') : CondAt L lt w' i b :=
  h.keep fun k cs ty hk ht => hf.block k (lt_of_get hk) fun e => by
    rw [e, hr.rd] at hk
    simp only [rdObj, Option.some.injEq, Obj.cells.injEq] at hk
    have h1 := hk.2.1
    rw [← h1] at ht
    exact absurd ht (by decide)
theorem CondAt.more {L L' : List Pt} {lt : Nat} {w : World} {i b : Nat} (h : CondAt L lt w i b) (hl : L.length ≤ L'.length) (hg : ∀ k, k < L.length → L'.getD k noPt = L.getD k noPt) : CondAt L' lt w i b := by
  refine h.ind (fun i b => CondAt L' lt w i b) ?_
  · intro i b u bl hi hlo hb hu hlt hs ih
    have e := hg i hi
    exact .mk i b u bl (by omega) hlo (by rw [e]; exact hb) (by rw [e]; exact hu) (by rw [e]; exact hlt) (by rw [e]; exact ih)
theorem CondAt.put {L : List Pt} {lt : Nat} {w : World} {i b : Nat} (h : CondAt L lt w i b) (p : Pt) : CondAt (L ++ [p]) lt w i b :=
  h.more (by simp) (fun k hk => by simp [List.getD_eq_getElem?_getD, List.getElem?_append_left hk])
end Go.Proofs.YtfkdailfcmnjlaaGreatDoor

namespace Go.Proofs.YtfkdailfcmnjlaaGreatDoor
open Go Go.RowKit
set_option maxRecDepth 100000

/-- The type of a word that stands alone, by its kind. -/
def wordK (k : Nat) : Nat := if k = 1 ∨ (27 ≤ k ∧ k ≤ 30) then 1 else if k = 20 ∨ k = 21 ∨ k = 34 ∨ k = 35 then 2 else if (22 ≤ k ∧ k ≤ 26) ∨ (31 ≤ k ∧ k ≤ 33) then 3 else 0
def ifAllK (us : List Nat) (want give : Nat) : Nat := if us.all (fun u => u == want) then give else 0
/-- The type over parts of types. -/
def overK (k : Nat) (us : List Nat) : Nat :=
  if k = 6 ∨ k = 7 then ifAllK us 1 1 else if k = 10 ∨ k = 9 then ifAllK us 1 2 else if k = 8 then ifAllK us (us.getD 0 0) 2
  else if k = 17 ∨ k = 18 ∨ k = 19 then ifAllK us 2 2
  else if k = 14 then (if us.getD 0 0 = 2 then ifAllK (us.drop 1) (us.getD 1 0) (us.getD 1 0) else 0) else 0

abbrev isTy (c : UInt8) : Prop := c = 110 ∨ c = 116 ∨ c = 109
theorem isTy_mem {c : UInt8} (h : isTy c) : c ∈ ([110, 116, 109] : List UInt8) := by
  rcases h with rfl | rfl | rfl <;> decide
theorem tcode_zero {c : UInt8} (h : c = 0 ∨ isTy c) : tcode c = 0 ↔ c = 0 := by
  rcases h with rfl | rfl | rfl | rfl <;> decide
/-- The type by the text alone. -/
def tyT (x s : List UInt8) : UInt8 := UInt8.ofNat (tyCase [] [] ⟨107, x, 0⟩ s)
theorem tyT_eq (xs : List Itm) (its : List UInt8) {t : Tok} (h1 : t.k ≠ 110) (h2 : t.k ≠ 111) (s : List UInt8) : UInt8.ofNat (tyCase xs its t s) = tyT t.text s := by
  unfold tyT tyCase
  rw [if_neg h1, if_neg h2]
  simp only []
  rw [if_neg (show ¬ (107 : Nat) = 110 by decide), if_neg (show ¬ (107 : Nat) = 111 by decide)]
theorem leaf_ty : ∀ x ∈ spell.drop 11, (decide (0 ≤ idx kMembers x) || decide (0 ≤ idx kFields x) || x == wTrue || x == wFalse) = true → tcode (tyT x []) = wordK (kn x) ∧ isTy (tyT x []) := by decide
theorem over2_ty : ∀ x ∈ ([[43], [45], [60], [60, 61], [61], [111, 114], [97, 110, 100]] : List (List UInt8)), ∀ a ∈ ([110, 116, 109] : List UInt8), ∀ b ∈ ([110, 116, 109] : List UInt8), tcode (tyT x [a, b]) = overK (kn x) [tcode a, tcode b] ∧ (tyT x [a, b] = 0 ∨ isTy (tyT x [a, b])) := by decide
theorem over1_ty : ∀ a ∈ ([110, 116, 109] : List UInt8), tcode (tyT wNot [a]) = overK (kn wNot) [tcode a] ∧ (tyT wNot [a] = 0 ∨ isTy (tyT wNot [a])) := by decide
theorem over3_ty : ∀ a ∈ ([110, 116, 109] : List UInt8), ∀ b ∈ ([110, 116, 109] : List UInt8), ∀ c ∈ ([110, 116, 109] : List UInt8), tcode (tyT wIf [a, b, c]) = overK (kn wIf) [tcode a, tcode b, tcode c] ∧ (tyT wIf [a, b, c] = 0 ∨ isTy (tyT wIf [a, b, c])) := by decide
theorem len_two {l : List Nat} (h : l.length = 2) : ∃ a b, l = [a, b] := by
  match l, h with
  | [a, b], _ => exact ⟨a, b, rfl⟩
theorem len_three {l : List Nat} (h : l.length = 3) : ∃ a b c, l = [a, b, c] := by
  match l, h with
  | [a, b, c], _ => exact ⟨a, b, c, rfl⟩
theorem joins_text {n : Nat} {t : Tok} (h : joins n t = true) : t.text ∈ ([[43], [45], [60], [60, 61], [61], [111, 114], [97, 110, 100]] : List (List UInt8)) ∧ (t.k = 107 ∨ t.k = 115) := by
  unfold joins at h
  simp only [Bool.and_eq_true, decide_eq_true_eq, Bool.or_eq_true, beq_iff_eq] at h
  refine ⟨?_, h.2⟩
  have hm := idx_mem h.1
  unfold signsOf at hm
  split at hm
  · simp at hm; rw [hm]; decide
  · split at hm
    · simp at hm; rw [hm]; decide
    · split at hm
      · simp at hm; rcases hm with hm | hm | hm <;> rw [hm] <;> decide
      · simp at hm; rcases hm with hm | hm <;> rw [hm] <;> decide
theorem isW_text {t : Tok} {x : List UInt8} (h : isW t x = true) : t.text = x ∧ (t.k = 107 ∨ t.k = 115) := by
  unfold isW at h; simp at h; exact ⟨h.2, h.1⟩

/-- What the types under a part make of it: the program's way. -/
theorem ty_leaf (xs : List Itm) (its : List UInt8) {t : Tok} (ht : TokW t) (ha : alone t = true) (ho : t.k ≠ 111) : tcode (UInt8.ofNat (tyCase xs its t [])) = wordK (kindOf t) ∧ isTy (UInt8.ofNat (tyCase xs its t [])) := by
  rcases ht with h | h | h | ⟨h, hm⟩ | ⟨h, hm⟩
  · have e : tyCase xs its t [] = 110 := by unfold tyCase; rw [if_pos h]
    rw [e]; unfold kindOf; rw [if_pos h]; decide
  · exact absurd h ho
  · rw [alone, h] at ha; simp at ha
  · have hx : (decide (0 ≤ idx kMembers t.text) || decide (0 ≤ idx kFields t.text) || t.text == wTrue || t.text == wFalse) = true := by
      rw [alone, h] at ha; simpa using ha
    rw [tyT_eq xs its (by omega) (by omega), kind_word (.inl h)]
    exact leaf_ty _ hm hx
  · rw [alone, h] at ha; simp at ha
theorem ty_over {xs : List Itm} {its : List UInt8} {p : Pt} (hs : Shape p) (hn : p.subs ≠ []) {F : Nat → UInt8} (hF : ∀ j ∈ p.subs, isTy (F j)) :
    tcode (UInt8.ofNat (tyCase xs its p.tok (p.subs.map F))) = overK (kindOf p.tok) (p.subs.map fun j => tcode (F j)) ∧ (UInt8.ofNat (tyCase xs its p.tok (p.subs.map F)) = 0 ∨ isTy (UInt8.ofNat (tyCase xs its p.tok (p.subs.map F)))) := by
  rcases hs with ⟨_, h⟩ | ⟨h, hl⟩ | ⟨h, hl⟩ | ⟨n, _, h, hl⟩
  · exact absurd h hn
  · obtain ⟨e, hk⟩ := isW_text h
    obtain ⟨a, ea⟩ : ∃ a, p.subs = [a] := List.length_eq_one_iff.1 hl
    rw [tyT_eq xs its (by omega) (by omega), kind_word hk, e, ea]
    exact over1_ty _ (isTy_mem (hF a (by simp [ea])))
  · obtain ⟨e, hk⟩ := isW_text h
    obtain ⟨a, b, c, ea⟩ : ∃ a b c, p.subs = [a, b, c] := len_three hl
    rw [tyT_eq xs its (by omega) (by omega), kind_word hk, e, ea]
    exact over3_ty _ (isTy_mem (hF a (by simp [ea]))) _ (isTy_mem (hF b (by simp [ea]))) _ (isTy_mem (hF c (by simp [ea])))
  · obtain ⟨e, hk⟩ := joins_text h
    obtain ⟨a, b, ea⟩ : ∃ a b, p.subs = [a, b] := len_two hl
    rw [tyT_eq xs its (by omega) (by omega), kind_word hk, ea]
    exact over2_ty _ e _ (isTy_mem (hF a (by simp [ea]))) _ (isTy_mem (hF b (by simp [ea])))

/-- Every own name of some parts has a let among the first items. -/
def Given (xs : List Itm) (n : Nat) (L : List Pt) (lo hi : Nat) : Prop := ∀ q, lo ≤ q → q < hi → (L.getD q noPt).tok.k = 111 → (L.getD q noPt).tok.text ≠ [] ∧ 0 ≤ letIx xs (L.getD q noPt).tok.text n

theorem forest_bounds {f : Nat} {L : List Pt} (js : List Nat) : ∀ {lo hi}, Forest (TreeF f L) lo js hi → ∀ j ∈ js, ∃ lo', lo ≤ lo' ∧ j < hi ∧ TreeF f L lo' j := by
  induction js with
  | nil => intro lo hi _ j hj; simp at hj
  | cons x js ih =>
    intro lo hi h j hj
    have h1 := h.1.le
    have h2 := forest_le (T := TreeF f L) (fun lo j hj => hj.le) js h.2
    simp at hj
    rcases hj with rfl | hj
    · exact ⟨lo, Nat.le_refl _, by omega, h.1⟩
    · obtain ⟨lo', a, b, c⟩ := ih h.2 j hj
      exact ⟨lo', by omega, b, c⟩

theorem letIx_its {xs : List Itm} {its : List UInt8} (hi : ∀ c ∈ its, isTy c) (s : List UInt8) (h0 : 0 ≤ letIx xs s its.length) : isTy (its.getD (letIx xs s its.length).toNat 0) := by
  have h1 := (letIx_lt xs s its.length).1
  have h2 : (letIx xs s its.length).toNat < its.length := by omega
  rw [List.getD_eq_getElem?_getD, List.getElem?_eq_getElem h2]
  exact hi _ (List.getElem_mem h2)

theorem tyOf_ty {xs : List Itm} {its : List UInt8} {L : List Pt} (hW : ∀ k, k < L.length → TokW (L.getD k noPt).tok) (hi : ∀ c ∈ its, isTy c) (f : Nat) : ∀ {lo i : Nat}, TreeF f L lo i → Given xs its.length L lo (i + 1) → tyOf xs its L f i = 0 ∨ isTy (tyOf xs its L f i) := by
  induction f with
  | zero => intro lo i h; exact h.elim
  | succ f ih =>
    intro lo i h hg
    rw [tyOf]
    split
    · exact .inl rfl
    · rename_i hc
      by_cases ho : (L.getD i noPt).tok.k = 111
      · right
        have := letIx_its hi _ (hg i h.le (by omega) ho).2
        have e : tyCase xs its (L.getD i noPt).tok ((L.getD i noPt).subs.map (tyOf xs its L f)) = (its.getD (letIx xs (L.getD i noPt).tok.text its.length).toNat 0).toNat := by
          unfold tyCase; rw [if_neg (by omega), if_pos ho]
        rw [e, UInt8.ofNat_toNat]; exact this
      · by_cases hs : (L.getD i noPt).subs = []
        · rw [hs]
          have ha : alone (L.getD i noPt).tok = true := by
            rcases h.2.1 with ⟨h1, _⟩ | ⟨_, h1⟩ | ⟨_, h1⟩ | ⟨n, _, _, h1⟩
            · exact h1
            all_goals (rw [hs] at h1; simp at h1)
          exact .inr (ty_leaf xs its (hW i h.1) ha ho).2
        · refine (ty_over h.2.1 hs fun j hj => ?_).2
          obtain ⟨lo', a, b, c⟩ := forest_bounds _ h.2.2 j hj
          rcases ih c (fun q h1 h2 => hg q (by omega) (by omega)) with h0 | h0
          · exact absurd (by rw [List.contains_iff_mem, ← h0]; exact List.mem_map_of_mem hj) hc
          · exact h0
end Go.Proofs.YtfkdailfcmnjlaaGreatDoor

namespace Go.Proofs.YtfkdailfcmnjlaaGreatDoor
open Go Go.RowKit
set_option maxRecDepth 100000

/-- What a word tells that stands alone. -/
def wordI (xs : List Itm) (vals fl : List Int) (t : Tok) : Int :=
  if t.k = 110 then decVal t.text else if t.k = 111 then vals.getD (letIx xs t.text vals.length).toNat 0
  else if 0 ≤ idx kFields t.text then fl.getD (idx kFields t.text).toNat 0 else if 0 ≤ idx kMembers t.text then idx kMembers t.text else truthI (t.text == wTrue)
/-- What a part tells, by what the parts under it tell. -/
def overI (s : List UInt8) (w : Int) : List Int → Int
  | [] => w
  | [a] => 1 - a
  | [a, b] => twoI s a b
  | a :: b :: c :: _ => if a = 1 then b else c
def tellF (xs : List Itm) (vals fl : List Int) (L : List Pt) : Nat → Nat → Int
  | 0, _ => 0
  | f + 1, k => overI (L.getD k noPt).tok.text (wordI xs vals fl (L.getD k noPt).tok) ((L.getD k noPt).subs.map (tellF xs vals fl L f))

/-- A value of a type. -/
def Has (c : UInt8) (v : Int) : Prop := In64 v ∧ (c = 116 → v = 0 ∨ v = 1)
theorem has_truth (c : UInt8) (b : Bool) : Has c (truthI b) := by
  unfold truthI Has In64; cases b <;> simp
def tysF : List UInt8 := [110, 110, 110, 110, 109, 109, 109, 116, 116]
structure FieldsOK (fl : List Int) : Prop where
  len : fl.length = 9
  has : ∀ i, i < 9 → Has (tysF.getD i 0) (fl.getD i 0)
structure ValsOK (its : List UInt8) (vals : List Int) : Prop where
  len : vals.length = its.length
  has : ∀ i, i < its.length → Has (its.getD i 0) (vals.getD i 0)
theorem ValsOK.snoc {its : List UInt8} {vals : List Int} (h : ValsOK its vals) {c : UInt8} {v : Int} (hv : Has c v) : ValsOK (its ++ [c]) (vals ++ [v]) := by
  refine ⟨by simp [h.len], fun i hi => ?_⟩
  have hl := h.len
  rcases Nat.lt_or_ge i its.length with h1 | h1
  · have := h.has i h1
    rw [List.getD_eq_getElem?_getD, List.getD_eq_getElem?_getD] at this ⊢
    rw [List.getElem?_append_left (by omega), List.getElem?_append_left (by omega)]; exact this
  · have e : i = its.length := by simp at hi; omega
    subst e
    rw [List.getD_eq_getElem?_getD, List.getD_eq_getElem?_getD, List.getElem?_append_right (by omega), List.getElem?_append_right (by omega), hl]
    simpa using hv

theorem two_has (s : List UInt8) {a b : Int} (c : UInt8) (h : s = [43] ∨ s = [45] → c ≠ 116) : Has c (twoI s a b) := by
  unfold twoI
  by_cases h0 : s = [43]
  · rw [if_pos h0]; exact ⟨clamp_in _, fun e => absurd e (h (.inl h0))⟩
  rw [if_neg h0]
  by_cases h1 : s = [45]
  · rw [if_pos h1]; exact ⟨clamp_in _, fun e => absurd e (h (.inr h1))⟩
  rw [if_neg h1]
  split
  · exact has_truth _ _
  split
  · exact has_truth _ _
  split
  · exact has_truth _ _
  split
  · exact has_truth _ _
  · exact has_truth _ _
theorem fields_idx (x : List UInt8) (h : 0 ≤ idx kFields x) : ∃ n : Nat, idx kFields x = n ∧ n < 9 := by
  have := idx_lt kFields x
  have e : (kFields.length : Int) = 9 := rfl
  exact ⟨(idx kFields x).toNat, by omega, by omega⟩
theorem members_idx (x : List UInt8) (h : 0 ≤ idx kMembers x) : idx kMembers x < 5 := by
  have := idx_lt kMembers x
  have e : (kMembers.length : Int) = 5 := rfl
  omega
theorem ty_plus (x : List UInt8) (h : x = [43] ∨ x = [45]) (s : List UInt8) : tyT x s ≠ 116 := by
  have e : tyT x s = UInt8.ofNat (if s = [110, 110] then 110 else 0) := by
    rcases h with rfl | rfl <;> rfl
  rw [e]; split <;> decide
theorem ty_not (s : List UInt8) (h : tyT wNot s ≠ 0) : s = [116] := by
  have e : tyT wNot s = UInt8.ofNat (if s = [116] then 116 else 0) := rfl
  rw [e] at h
  by_cases h1 : s = [116]
  · exact h1
  · rw [if_neg h1] at h; exact absurd rfl h
theorem ty_if {a b c : UInt8} (h : tyT wIf [a, b, c] ≠ 0) : a = 116 ∧ b = c ∧ tyT wIf [a, b, c] = b := by
  have e : tyT wIf [a, b, c] = UInt8.ofNat (if a.toNat = 116 ∧ b.toNat = c.toNat then b.toNat else 0) := rfl
  rw [e] at h
  by_cases h1 : a.toNat = 116 ∧ b.toNat = c.toNat
  · refine ⟨UInt8.toNat_inj.1 h1.1, UInt8.toNat_inj.1 h1.2, ?_⟩
    rw [e, if_pos h1, UInt8.ofNat_toNat]
  · rw [if_neg h1] at h; exact absurd rfl h

theorem word_has {xs : List Itm} {its : List UInt8} {vals fl : List Int} (hV : ValsOK its vals) (hF : FieldsOK fl) {t : Tok} (ha : alone t = true) (hn : t.k = 110 → decVal t.text ≤ 9223372036854775807)
    (ho : t.k = 111 → 0 ≤ letIx xs t.text its.length) : Has (UInt8.ofNat (tyCase xs its t [])) (wordI xs vals fl t) := by
  unfold wordI tyCase
  by_cases h1 : t.k = 110
  · rw [if_pos h1, if_pos h1]
    have := hn h1
    exact ⟨by unfold In64; omega, fun e => absurd e (by decide)⟩
  rw [if_neg h1, if_neg h1]
  by_cases h2 : t.k = 111
  · rw [if_pos h2, if_pos h2, hV.len]
    have h3 := ho h2
    have h4 := (letIx_lt xs t.text its.length).1
    rw [UInt8.ofNat_toNat]
    exact hV.has _ (by omega)
  rw [if_neg h2, if_neg h2]
  by_cases h3 : 0 ≤ idx kFields t.text
  · rw [if_pos h3, if_pos h3]
    obtain ⟨n, e, hn9⟩ := fields_idx _ h3
    rw [e, Int.toNat_natCast, UInt8.ofNat_toNat]
    exact hF.has n hn9
  rw [if_neg h3, if_neg h3]
  by_cases h4 : 0 ≤ idx kMembers t.text
  · rw [if_pos h4, if_pos h4]
    have := members_idx _ h4
    exact ⟨by unfold In64; omega, fun e => absurd e (by decide)⟩
  rw [if_neg h4, if_neg h4]
  exact has_truth _ _

/-- A condition of a type tells a value of it. -/
theorem tell_has {xs : List Itm} {its : List UInt8} {vals fl : List Int} {L : List Pt} (hV : ValsOK its vals) (hF : FieldsOK fl) (hN : ∀ k, k < L.length → (L.getD k noPt).tok.k = 110 → decVal (L.getD k noPt).tok.text ≤ 9223372036854775807) (f : Nat) :
    ∀ {lo i : Nat}, TreeF f L lo i → Given xs its.length L lo (i + 1) → tyOf xs its L f i ≠ 0 → Has (tyOf xs its L f i) (tellF xs vals fl L f i) := by
  induction f with
  | zero => intro lo i h; exact h.elim
  | succ f ih =>
    intro lo i h hg hty
    rw [tellF]
    rw [tyOf] at hty ⊢
    by_cases hc : ((L.getD i noPt).subs.map (tyOf xs its L f)).contains 0 = true
    · rw [if_pos hc] at hty; exact absurd rfl hty
    rw [if_neg hc] at hty ⊢
    have hsub : ∀ j ∈ (L.getD i noPt).subs, Has (tyOf xs its L f j) (tellF xs vals fl L f j) := fun j hj => by
      obtain ⟨lo', a, b, c⟩ := forest_bounds _ h.2.2 j hj
      refine ih c (fun q h1 h2 => hg q (by omega) (by omega)) fun e => hc ?_
      rw [List.contains_iff_mem, ← e]; exact List.mem_map_of_mem hj
    rcases h.2.1 with ⟨ha, hs⟩ | ⟨hw, hl⟩ | ⟨hw, hl⟩ | ⟨n, _, hj, hl⟩
    · rw [hs]
      exact word_has hV hF ha (hN i h.1) fun ho => (hg i h.le (by omega) ho).2
    · obtain ⟨e, hk⟩ := isW_text hw
      obtain ⟨a, ea⟩ : ∃ a, (L.getD i noPt).subs = [a] := List.length_eq_one_iff.1 hl
      rw [tyT_eq xs its (by omega) (by omega), e, ea] at hty ⊢
      have h1 := hsub a (by rw [ea]; simp)
      have h2 := ty_not _ hty
      simp only [List.map_cons, List.map_nil, List.cons.injEq, and_true] at h2
      have h3 := h1.2 h2
      simp only [List.map_cons, List.map_nil, overI]
      refine ⟨?_, fun _ => ?_⟩
      · unfold In64; omega
      · omega
    · obtain ⟨e, hk⟩ := isW_text hw
      obtain ⟨a, b, c, ea⟩ : ∃ a b c, (L.getD i noPt).subs = [a, b, c] := len_three hl
      rw [tyT_eq xs its (by omega) (by omega), e, ea] at hty ⊢
      simp only [List.map_cons, List.map_nil] at hty ⊢
      obtain ⟨h1, h2, h3⟩ := ty_if hty
      rw [h3]
      simp only [overI]
      split
      · exact hsub b (by rw [ea]; simp)
      · rw [h2]; exact hsub c (by rw [ea]; simp)
    · obtain ⟨e, hk⟩ := joins_text hj
      obtain ⟨a, b, ea⟩ : ∃ a b, (L.getD i noPt).subs = [a, b] := len_two hl
      rw [tyT_eq xs its (by omega) (by omega), ea]
      simp only [List.map_cons, List.map_nil, overI]
      exact two_has _ _ fun h => ty_plus _ h _
/-- Of 'not' a truth is asked. -/
theorem not_truth {xs : List Itm} {its : List UInt8} {vals fl : List Int} {L : List Pt} (hV : ValsOK its vals) (hF : FieldsOK fl) (hN : ∀ k, k < L.length → (L.getD k noPt).tok.k = 110 → decVal (L.getD k noPt).tok.text ≤ 9223372036854775807) {f lo i a : Nat} (h : TreeF (f + 1) L lo i) (hg : Given xs its.length L lo (i + 1)) (hty : tyOf xs its L (f + 1) i ≠ 0) (ea : (L.getD i noPt).subs = [a]) :
    tellF xs vals fl L f a = 0 ∨ tellF xs vals fl L f a = 1 := by
  rw [tyOf] at hty
  by_cases hc : ((L.getD i noPt).subs.map (tyOf xs its L f)).contains 0 = true
  · rw [if_pos hc] at hty; exact absurd rfl hty
  rw [if_neg hc] at hty
  obtain ⟨lo', h1, h2, h3⟩ := forest_bounds _ h.2.2 a (by rw [ea]; simp)
  have hh := tell_has hV hF hN f h3 (fun q h1 h2 => hg q (by omega) (by omega)) fun e => hc (by rw [List.contains_iff_mem, ← e]; exact List.mem_map_of_mem (by rw [ea]; simp))
  rcases h.2.1 with ⟨_, hs⟩ | ⟨hw, hl⟩ | ⟨_, hl⟩ | ⟨n, _, _, hl⟩
  · rw [ea] at hs; simp at hs
  · obtain ⟨e, hk⟩ := isW_text hw
    rw [tyT_eq xs its (by omega) (by omega), e, ea] at hty
    have h2 := ty_not _ hty
    simp only [List.map_cons, List.map_nil, List.cons.injEq, and_true] at h2
    exact hh.2 h2
  · rw [ea] at hl; simp at hl
  · rw [ea] at hl; simp at hl
end Go.Proofs.YtfkdailfcmnjlaaGreatDoor

namespace Go.Proofs.YtfkdailfcmnjlaaGreatDoor
open Go Go.RowKit
set_option maxRecDepth 100000

/-- An instruction: its byte, its number, its place. -/
structure Ins where
  op : Nat
  n : Int
  pl : Nat
def noIns : Ins := ⟨0, 0, 0⟩
/-- How many bytes an instruction has; 0: there is none. -/
def sizeOp (op : Nat) : Nat := if op = 1 then 9 else if 2 ≤ op ∧ op ≤ 6 then 2 else if 7 ≤ op ∧ op ≤ 14 then 1 else if op = 15 ∨ op = 16 then 3 else if op = 17 ∨ op = 18 then 2 else 0
/-- The greatest number of an instruction of two bytes. -/
def boundOp (op cells : Nat) : Int := if op = 2 then 1 else if op = 3 then 4 else if op = 4 then 8 else if op = 5 ∨ op = 6 then (cells : Int) - 1 else 255
def byteAt (b : List UInt8) (i : Nat) : Nat := (b.getD i 0).toNat
/-- The number that so many bytes are, the greatest first. -/
def beVal (b : List UInt8) (i : Nat) : Nat → Nat
  | 0 => 0
  | n + 1 => beVal b i n * 256 + byteAt b (i + n)
/-- Within 64 bits, with sign. -/
def signed64 (n : Nat) : Int := if n < 9223372036854775808 then (n : Int) else (n : Int) - 18446744073709551616
def numAt (b : List UInt8) (op at_ : Nat) : Int := if op = 1 then signed64 (beVal b (at_ + 1) 8) else (beVal b (at_ + 1) (sizeOp op - 1) : Int)
/-- The instruction at a place. -/
def insAt (b : List UInt8) (at_ : Nat) : Ins := ⟨byteAt b at_, numAt b (byteAt b at_) at_, at_⟩
/-- All instructions from a place on. -/
def dec : Nat → List UInt8 → Nat → Option (List Ins)
  | 0, _, _ => none
  | f + 1, b, a => if b.length ≤ a then some [] else if sizeOp (byteAt b a) ≠ 0 ∧ a + sizeOp (byteAt b a) ≤ b.length ∧ (sizeOp (byteAt b a) = 2 → (byteAt b (a + 1) : Int) ≤ boundOp (byteAt b a) (byteAt b 2)) then (dec f b (a + sizeOp (byteAt b a))).map (insAt b a :: ·) else none

/-- What is known at a place: the types on the stack (the uppermost first), those of the cells (0: none). -/
structure Kn where
  st : List Nat
  cl : List Nat
def fieldTy (n : Nat) : Nat := if n ≤ 3 then 1 else if n ≤ 6 then 3 else 2
def takesK (want more : List Nat) (k : Kn) : Option Kn := if k.st.take want.length = want then some ⟨more ++ k.st.drop want.length, k.cl⟩ else none
/-- What is known behind an instruction. -/
def doesK (op n : Nat) (k : Kn) : Option Kn :=
  if op = 1 then some ⟨1 :: k.st, k.cl⟩
  else if op = 2 then some ⟨2 :: k.st, k.cl⟩
  else if op = 3 then some ⟨3 :: k.st, k.cl⟩
  else if op = 4 then some ⟨fieldTy n :: k.st, k.cl⟩
  else if op = 5 then (match k.st with
    | [] => none
    | t :: r => some ⟨r, k.cl.set n t⟩)
  else if op = 6 then (if k.cl.getD n 0 = 0 then none else some ⟨k.cl.getD n 0 :: k.st, k.cl⟩)
  else if op = 7 ∨ op = 8 then takesK [1, 1] [1] k
  else if op = 9 then (match k.st with
    | x :: y :: r => if x = y then some ⟨2 :: r, k.cl⟩ else none
    | _ => none)
  else if op = 10 ∨ op = 11 then takesK [1, 1] [2] k
  else if op = 12 then takesK [2] [2] k
  else if op = 13 ∨ op = 14 then takesK [2, 2] [2] k
  else if op = 15 then takesK [2] [] k
  else some k
/-- Where a jump comes to. -/
def jumpTo (ins : List Ins) (x : Ins) : Option Nat := ins.findIdx? fun y => y.pl == x.pl + 3 + x.n.toNat
/-- Where an instruction leads. -/
def leadsK (ins : List Ins) (i : Nat) (x : Ins) : List (Option Nat) :=
  if x.op = 15 then [if i + 1 < ins.length then some (i + 1) else none, jumpTo ins x]
  else if x.op = 16 then [jumpTo ins x]
  else if x.op = 17 ∨ x.op = 18 then []
  else [if i + 1 < ins.length then some (i + 1) else none]
def meetC (a b : List Nat) : List Nat := List.zipWith (fun x y => if x = y then x else 0) a b
def bringK (come : List (Option Kn)) (k : Kn) : List (Option Nat) → Option (List (Option Kn))
  | [] => some come
  | none :: _ => none
  | some j :: r => match come.getD j none with
    | none => bringK (come.set j (some k)) k r
    | some a => if a.st = k.st then bringK (come.set j (some ⟨a.st, meetC a.cl k.cl⟩)) k r else none
def flowK (ins : List Ins) (depth : Nat) : List Ins → Nat → List (Option Kn) → Bool
  | [], _, _ => true
  | x :: r, i, come => match come.getD i none with
    | none => flowK ins depth r (i + 1) come
    | some k => match doesK x.op x.n.toNat k with
      | none => false
      | some k' => if depth < k'.st.length then false else (match bringK come k' (leadsK ins i x) with
        | none => false
        | some come' => flowK ins depth r (i + 1) come')
def come0 (cells n : Nat) : List (Option Kn) := some ⟨[], List.replicate cells 0⟩ :: List.replicate (n - 1) none
/-- The code that bytes are, if they may be one. -/
def loadOf (b : List UInt8) : Option (List Ins) :=
  if b.length < 4 ∨ 4000 < b.length ∨ byteAt b 0 ≠ 71 ∨ 24 < byteAt b 1 then none else
  match dec (b.length + 1) b 3 with
  | none => none
  | some ins => if flowK ins (byteAt b 1) ins 0 (come0 (byteAt b 2) ins.length) then some ins else none

/-- What an instruction makes of two. -/
def twoOp (op : Nat) (a b : Int) : Int :=
  if op = 7 then clampI (a + b) else if op = 8 then clampI (a - b) else if op = 9 then truthI (a == b) else if op = 10 then truthI (decide (a < b))
  else if op = 11 then truthI (decide (a ≤ b)) else if op = 13 then truthI (a == 1 && b == 1) else truthI (a == 1 || b == 1)
/-- A step of the machine: the stack (the uppermost first), the cells; does it jump? -/
def stepK (fl : List Int) (x : Ins) (st cl : List Int) : Option (List Int × List Int × Bool) :=
  if x.op = 1 ∨ x.op = 2 ∨ x.op = 3 then some (x.n :: st, cl, false)
  else if x.op = 4 then some (fl.getD x.n.toNat 0 :: st, cl, false)
  else if x.op = 5 then (match st with
    | [] => none
    | v :: r => some (r, cl.set x.n.toNat v, false))
  else if x.op = 6 then some (cl.getD x.n.toNat 0 :: st, cl, false)
  else if x.op = 12 then (match st with
    | [] => none
    | v :: r => some ((1 - v) :: r, cl, false))
  else if x.op = 15 then (match st with
    | [] => none
    | v :: r => some (r, cl, v == 0))
  else if x.op = 16 then some (st, cl, true)
  else (match st with
    | b :: a :: r => some (twoOp x.op a b :: r, cl, false)
    | _ => none)
/-- What the machine ends with, from an instruction on. -/
def runK (ins : List Ins) (fl : List Int) : Nat → Nat → List Int → List Int → Nat → Option (Bool × Nat × Nat)
  | 0, _, _, _, _ => none
  | f + 1, i, st, cl, n =>
    if i < ins.length then
      if (ins.getD i noIns).op = 17 ∨ (ins.getD i noIns).op = 18 then some (decide ((ins.getD i noIns).op = 17), (ins.getD i noIns).n.toNat, n + 1)
      else match stepK fl (ins.getD i noIns) st cl with
        | none => none
        | some (st', cl', false) => runK ins fl f (i + 1) st' cl' (n + 1)
        | some (st', cl', true) => match jumpTo ins (ins.getD i noIns) with
          | none => none
          | some j => runK ins fl f j st' cl' (n + 1)
    else none
end Go.Proofs.YtfkdailfcmnjlaaGreatDoor

namespace Go.Proofs.YtfkdailfcmnjlaaGreatDoor
open Go Go.RowKit
set_option maxRecDepth 100000

theorem byte_lt (b : List UInt8) (i : Nat) : byteAt b i < 256 := UInt8.toNat_lt _
theorem beVal_lt (b : List UInt8) (i n : Nat) : beVal b i n < 256 ^ n := by
  induction n with
  | zero => simp [beVal]
  | succ n ih => rw [beVal, Nat.pow_succ]; have := byte_lt b (i + n); omega
theorem signed_in {n : Nat} (h : n < 18446744073709551616) : In64 (signed64 n) := by
  unfold signed64 In64; split <;> omega
theorem size_le (op : Nat) : sizeOp op ≤ 9 := by unfold sizeOp; (repeat' split) <;> omega
theorem size_op {op : Nat} (h : sizeOp op ≠ 0) : 1 ≤ op ∧ op ≤ 18 := by
  unfold sizeOp at h
  by_cases h1 : op = 1
  · omega
  rw [if_neg h1] at h
  by_cases h2 : 2 ≤ op ∧ op ≤ 6
  · omega
  rw [if_neg h2] at h
  by_cases h3 : 7 ≤ op ∧ op ≤ 14
  · omega
  rw [if_neg h3] at h
  by_cases h4 : op = 15 ∨ op = 16
  · omega
  rw [if_neg h4] at h
  by_cases h5 : op = 17 ∨ op = 18
  · omega
  rw [if_neg h5] at h; exact absurd rfl h
/-- An instruction of bytes. -/
structure InsOK (b : List UInt8) (x : Ins) : Prop where
  here : x = insAt b x.pl
  size : sizeOp x.op ≠ 0
  fits : x.pl + sizeOp x.op ≤ b.length
  bound : sizeOp x.op = 2 → (byteAt b (x.pl + 1) : Int) ≤ boundOp x.op (byteAt b 2)
/-- The instructions stand one behind the other. -/
def Behind (a e : Nat) : List Ins → Prop
  | [] => a = e
  | x :: r => x.pl = a ∧ Behind (a + sizeOp x.op) e r
theorem dec_ok {b : List UInt8} (f : Nat) : ∀ {a : Nat} {ins : List Ins}, dec f b a = some ins → a ≤ b.length → (∀ x ∈ ins, InsOK b x) ∧ Behind a b.length ins := by
  induction f with
  | zero => intro a ins h; simp [dec] at h
  | succ f ih =>
    intro a ins h ha
    rw [dec] at h
    by_cases h1 : b.length ≤ a
    · rw [if_pos h1] at h; simp at h; subst h; exact ⟨by simp, by unfold Behind; omega⟩
    rw [if_neg h1] at h
    by_cases h2 : sizeOp (byteAt b a) ≠ 0 ∧ a + sizeOp (byteAt b a) ≤ b.length ∧ (sizeOp (byteAt b a) = 2 → (byteAt b (a + 1) : Int) ≤ boundOp (byteAt b a) (byteAt b 2))
    · rw [if_pos h2] at h
      cases hd : dec f b (a + sizeOp (byteAt b a)) with
      | none => rw [hd] at h; simp at h
      | some r =>
        rw [hd] at h; simp at h; subst h
        obtain ⟨i1, i2⟩ := ih hd h2.2.1
        refine ⟨fun x hx => ?_, rfl, i2⟩
        rcases List.mem_cons.1 hx with rfl | hx
        · exact ⟨rfl, h2.1, h2.2.1, h2.2.2⟩
        · exact i1 x hx
    · rw [if_neg h2] at h; simp at h
theorem behind_le {e : Nat} : ∀ {ins : List Ins} {a : Nat}, (∀ x ∈ ins, sizeOp x.op ≠ 0) → Behind a e ins → a + ins.length ≤ e ∧ ∀ i, i < ins.length → a ≤ (ins.getD i noIns).pl ∧ (ins.getD i noIns).pl < e
  | [], a, _, h => ⟨by unfold Behind at h; simp; omega, fun i hi => by simp at hi⟩
  | x :: r, a, hs, h => by
    obtain ⟨h1, h2⟩ := h
    have hx := hs x (by simp)
    obtain ⟨i1, i2⟩ := behind_le (fun y hy => hs y (by simp [hy])) h2
    refine ⟨by simp; omega, fun i hi => ?_⟩
    cases i with
    | zero => simp only [List.getD_cons_zero]; omega
    | succ i => rw [List.getD_cons_succ]; have := i2 i (by simpa using hi); omega
theorem behind_inc {e : Nat} : ∀ {ins : List Ins} {a : Nat}, (∀ x ∈ ins, sizeOp x.op ≠ 0) → Behind a e ins → ∀ i j, i < j → j < ins.length → (ins.getD i noIns).pl + sizeOp (ins.getD i noIns).op ≤ (ins.getD j noIns).pl
  | [], a, _, h => fun i j _ hj => by simp at hj
  | x :: r, a, hs, h => fun i j hij hj => by
    obtain ⟨h1, h2⟩ := h
    obtain ⟨j, rfl⟩ : ∃ k, j = k + 1 := ⟨j - 1, by omega⟩
    rw [List.getD_cons_succ]
    have hr : ∀ y ∈ r, sizeOp y.op ≠ 0 := fun y hy => hs y (by simp [hy])
    cases i with
    | zero => simp only [List.getD_cons_zero]; have := (behind_le hr h2).2 j (by simpa using hj); omega
    | succ i => rw [List.getD_cons_succ]; exact behind_inc hr h2 i j (by omega) (by simpa using hj)
/-- The instructions of bytes. -/
structure CodeOK (b : List UInt8) (ins : List Ins) : Prop where
  each : ∀ x ∈ ins, InsOK b x
  order : Behind 3 b.length ins
theorem getD_ins {ins : List Ins} {i : Nat} (h : i < ins.length) : ins.getD i noIns ∈ ins := by rw [List.getD_eq_getElem?_getD, List.getElem?_eq_getElem h]; exact List.getElem_mem h
theorem jump_fwd {b : List UInt8} {ins : List Ins} (h : CodeOK b ins) {i j : Nat} (hi : i < ins.length) (hj : jumpTo ins (ins.getD i noIns) = some j) : i < j ∧ j < ins.length ∧ (ins.getD j noIns).pl = (ins.getD i noIns).pl + 3 + (ins.getD i noIns).n.toNat := by
  unfold jumpTo at hj
  rw [List.findIdx?_eq_some_iff_getElem] at hj
  obtain ⟨h1, h2, _⟩ := hj
  have e : ins.getD j noIns = ins[j] := by rw [List.getD_eq_getElem?_getD, List.getElem?_eq_getElem h1]; rfl
  have h3 : (ins.getD j noIns).pl = (ins.getD i noIns).pl + 3 + (ins.getD i noIns).n.toNat := by rw [e]; simpa using h2
  refine ⟨?_, h1, h3⟩
  by_cases hij : i < j
  · exact hij
  · exfalso
    by_cases hje : j = i
    · subst hje; omega
    · have := behind_inc (fun x hx => (h.each x hx).size) h.order j i (by omega) hi
      omega

/-- Less is known of the cells. -/
def LeC (a b : List Nat) : Prop := ∀ c, a.getD c 0 ≠ 0 → a.getD c 0 = b.getD c 0
theorem LeC.refl (a : List Nat) : LeC a a := fun _ _ => rfl
theorem LeC.trans {a b c : List Nat} (h1 : LeC a b) (h2 : LeC b c) : LeC a c := fun i h => by
  have e := h1 i h
  rw [e] at h ⊢; exact h2 i h
theorem meet_at (a b : List Nat) (c : Nat) : (meetC a b).getD c 0 = if c < a.length ∧ c < b.length then (if a.getD c 0 = b.getD c 0 then a.getD c 0 else 0) else 0 := by
  unfold meetC
  by_cases h : c < a.length ∧ c < b.length
  · rw [if_pos h]
    simp [List.getD_eq_getElem?_getD, List.getElem?_zipWith, List.getElem?_eq_getElem h.1, List.getElem?_eq_getElem h.2]
  · rw [if_neg h, List.getD_eq_getElem?_getD, List.getElem?_eq_none (by simp; omega)]; rfl
theorem meet_left (a b : List Nat) : LeC (meetC a b) a := fun c h => by
  rw [meet_at] at h ⊢
  split at h
  · rename_i hc
    rw [if_pos hc]
    split at h
    · rename_i he; rw [if_pos he]
    · exact absurd rfl h
  · exact absurd rfl h
theorem meet_right (a b : List Nat) : LeC (meetC a b) b := fun c h => by
  rw [meet_at] at h ⊢
  split at h
  · rename_i hc
    rw [if_pos hc]
    split at h
    · rename_i he; rw [if_pos he]; exact he
    · exact absurd rfl h
  · exact absurd rfl h
/-- A later state of knowledge at a place. -/
def Later (a b : Option Kn) : Prop := ∀ k, a = some k → ∃ k', b = some k' ∧ k'.st = k.st ∧ LeC k'.cl k.cl
theorem Later.refl (a : Option Kn) : Later a a := fun k h => ⟨k, h, rfl, LeC.refl _⟩
theorem Later.trans {a b c : Option Kn} (h1 : Later a b) (h2 : Later b c) : Later a c := fun k h => by
  obtain ⟨k1, e1, s1, l1⟩ := h1 k h
  obtain ⟨k2, e2, s2, l2⟩ := h2 k1 e1
  exact ⟨k2, e2, s2.trans s1, l2.trans l1⟩
theorem getD_set_ne {α : Type} {l : List α} {i j : Nat} {v d : α} (h : i ≠ j) : (l.set i v).getD j d = l.getD j d := by
  simp [List.getD_eq_getElem?_getD, List.getElem?_set_ne h]
theorem getD_set_eq {α : Type} {l : List α} {i : Nat} {v d : α} (h : i < l.length) : (l.set i v).getD i d = v := by
  simp [List.getD_eq_getElem?_getD, h]
theorem bring_ok {k : Kn} : ∀ {ts : List (Option Nat)} {come come' : List (Option Kn)}, bringK come k ts = some come' → (∀ j, some j ∈ ts → j < come.length) →
    come'.length = come.length ∧ (∀ t ∈ ts, ∃ j, t = some j) ∧ (∀ j, some j ∈ ts → Later (some k) (come'.getD j none)) ∧ (∀ j, some j ∉ ts → come'.getD j none = come.getD j none) ∧ (∀ j, Later (come.getD j none) (come'.getD j none))
  | [], come, come', h, _ => by
    simp [bringK] at h; subst h
    exact ⟨rfl, by simp, by simp, fun _ _ => rfl, fun _ => Later.refl _⟩
  | none :: r, come, come', h, _ => by simp [bringK] at h
  | some j :: r, come, come', h, hlt => by
    have hj := hlt j (by simp)
    rw [bringK] at h
    have step : ∀ (n : Kn), Later (come.getD j none) (some n) → Later (some k) (some n) → bringK (come.set j (some n)) k r = some come' →
        come'.length = come.length ∧ (∀ t ∈ some j :: r, ∃ j, t = some j) ∧ (∀ i, some i ∈ some j :: r → Later (some k) (come'.getD i none)) ∧ (∀ i, some i ∉ some j :: r → come'.getD i none = come.getD i none) ∧ (∀ i, Later (come.getD i none) (come'.getD i none)) := by
      intro n h1 h2 h3
      obtain ⟨a1, a2, a3, a4, a5⟩ := bring_ok h3 (fun i hi => by simpa using hlt i (by simp [hi]))
      refine ⟨by simpa using a1, ?_, ?_, ?_, ?_⟩
      · intro t ht
        rcases List.mem_cons.1 ht with rfl | ht
        · exact ⟨j, rfl⟩
        · exact a2 t ht
      · intro i hi
        by_cases hir : some i ∈ r
        · exact a3 i hir
        · have e : i = j := by
            rcases List.mem_cons.1 hi with h | h
            · simpa using h
            · exact absurd h hir
          subst e
          rw [a4 i hir, getD_set_eq hj]; exact h2
      · intro i hi
        have h4 : some i ∉ r := fun h => hi (by simp [h])
        have h5 : j ≠ i := fun h => hi (by simp [h])
        rw [a4 i h4, getD_set_ne h5]
      · intro i
        refine Later.trans ?_ (a5 i)
        by_cases e : j = i
        · subst e; rw [getD_set_eq hj]; exact h1
        · rw [getD_set_ne e]; exact Later.refl _
    cases hc : come.getD j none with
    | none =>
      rw [hc] at h
      exact step k (by rw [hc]; intro k h; simp at h) (Later.refl _) h
    | some a =>
      rw [hc] at h
      simp only [] at h
      by_cases he : a.st = k.st
      · rw [if_pos he] at h
        refine step ⟨a.st, meetC a.cl k.cl⟩ ?_ ?_ h
        · rw [hc]; intro q hq; simp at hq; subst hq; exact ⟨_, rfl, rfl, meet_left _ _⟩
        · intro q hq; simp at hq; subst hq; exact ⟨_, rfl, he, meet_right _ _⟩
      · rw [if_neg he] at h; simp at h

/-- What is known at all places holds on each way. -/
def Good (ins : List Ins) (depth lo : Nat) (C : Nat → Option Kn) : Prop :=
  ∀ i, lo ≤ i → i < ins.length → ∀ k, C i = some k → ∃ k', doesK (ins.getD i noIns).op (ins.getD i noIns).n.toNat k = some k' ∧ k'.st.length ≤ depth ∧
    ∀ t ∈ leadsK ins i (ins.getD i noIns), ∃ j, t = some j ∧ i < j ∧ j < ins.length ∧ Later (some k') (C j)
theorem leads_fwd {b : List UInt8} {ins : List Ins} (h : CodeOK b ins) {i j : Nat} (hi : i < ins.length) (hj : some j ∈ leadsK ins i (ins.getD i noIns)) : i < j ∧ j < ins.length := by
  have nx : some j = (if i + 1 < ins.length then some (i + 1) else none) → i < j ∧ j < ins.length := fun e => by
    split at e
    · simp at e; omega
    · simp at e
  have jp : some j = jumpTo ins (ins.getD i noIns) → i < j ∧ j < ins.length := fun e => by
    have := jump_fwd h hi e.symm; omega
  unfold leadsK at hj
  split at hj
  · simp only [List.mem_cons, List.not_mem_nil, or_false] at hj
    rcases hj with hj | hj
    · exact nx hj
    · exact jp hj
  split at hj
  · simp only [List.mem_cons, List.not_mem_nil, or_false] at hj; exact jp hj
  split at hj
  · simp at hj
  · simp only [List.mem_cons, List.not_mem_nil, or_false] at hj; exact nx hj
theorem flow_good {b : List UInt8} {ins : List Ins} (h : CodeOK b ins) (depth : Nat) : ∀ (m i : Nat) (come : List (Option Kn)), ins.length - i = m → come.length = ins.length → flowK ins depth (ins.drop i) i come = true →
    ∃ C : Nat → Option Kn, (∀ j, j ≤ i → C j = come.getD j none) ∧ (∀ j, Later (come.getD j none) (C j)) ∧ Good ins depth i C := by
  intro m
  induction m with
  | zero =>
    intro i come hm hl _
    exact ⟨fun j => come.getD j none, fun _ _ => rfl, fun _ => Later.refl _, fun j h1 h2 => by omega⟩
  | succ m ih =>
    intro i come hm hl hf
    have hi : i < ins.length := by omega
    have hd : ins.drop i = ins.getD i noIns :: ins.drop (i + 1) := by rw [List.drop_eq_getElem_cons hi, List.getD_eq_getElem?_getD, List.getElem?_eq_getElem hi]; rfl
    rw [hd, flowK] at hf
    cases hc : come.getD i none with
    | none =>
      rw [hc] at hf
      obtain ⟨C, c1, c2, c3⟩ := ih (i + 1) come (by omega) hl hf
      refine ⟨C, fun j hj => c1 j (by omega), c2, fun j h1 h2 k hk => ?_⟩
      by_cases e : j = i
      · subst e; rw [c1 j (by omega), hc] at hk; simp at hk
      · exact c3 j (by omega) h2 k hk
    | some k =>
      rw [hc] at hf
      simp only [] at hf
      cases hk : doesK (ins.getD i noIns).op (ins.getD i noIns).n.toNat k with
      | none => rw [hk] at hf; simp at hf
      | some k' =>
        rw [hk] at hf
        simp only [] at hf
        by_cases hdp : depth < k'.st.length
        · rw [if_pos hdp] at hf; simp at hf
        rw [if_neg hdp] at hf
        cases hb : bringK come k' (leadsK ins i (ins.getD i noIns)) with
        | none => rw [hb] at hf; simp at hf
        | some come' =>
          rw [hb] at hf
          simp only [] at hf
          obtain ⟨a1, a2, a3, a4, a5⟩ := bring_ok hb (fun j hj => by rw [hl]; exact (leads_fwd h hi hj).2)
          obtain ⟨C, c1, c2, c3⟩ := ih (i + 1) come' (by omega) (by rw [a1]; exact hl) hf
          have keep : ∀ j, j ≤ i → come'.getD j none = come.getD j none := fun j hj => a4 j fun hm => by have := (leads_fwd h hi hm).1; omega
          refine ⟨C, fun j hj => (c1 j (by omega)).trans (keep j hj), fun j => (a5 j).trans (c2 j), fun j h1 h2 q hq => ?_⟩
          by_cases e : j = i
          · subst e
            rw [c1 j (by omega), keep j (by omega), hc] at hq
            simp at hq; subst hq
            refine ⟨k', hk, by omega, fun t ht => ?_⟩
            obtain ⟨j2, rfl⟩ := a2 t ht
            obtain ⟨f1, f2⟩ := leads_fwd h hi ht
            exact ⟨j2, rfl, f1, f2, (a3 j2 ht).trans (c2 j2)⟩
          · exact c3 j (by omega) h2 q hq
end Go.Proofs.YtfkdailfcmnjlaaGreatDoor

namespace Go.Proofs.YtfkdailfcmnjlaaGreatDoor
open Go Go.RowKit
set_option maxRecDepth 100000

/-- A value of a type, by the type's number. -/
def HasT (t : Nat) (v : Int) : Prop := In64 v ∧ (t = 2 → v = 0 ∨ v = 1)
theorem hasT_truth (t : Nat) (b : Bool) : HasT t (truthI b) := by
  unfold truthI HasT In64; cases b <;> simp
def TypedS : List Nat → List Int → Prop
  | [], [] => True
  | t :: ts, v :: vs => HasT t v ∧ TypedS ts vs
  | _, _ => False
theorem TypedS.len : ∀ {ts : List Nat} {vs : List Int}, TypedS ts vs → vs.length = ts.length
  | [], [], _ => rfl
  | _ :: _, _ :: _, h => by simp [TypedS.len h.2]
  | [], _ :: _, h => h.elim
  | _ :: _, [], h => h.elim
theorem TypedS.cons {t : Nat} {ts : List Nat} {vs : List Int} (h : TypedS (t :: ts) vs) : ∃ v r, vs = v :: r ∧ HasT t v ∧ TypedS ts r := by
  cases vs with
  | nil => exact h.elim
  | cons v r => exact ⟨v, r, rfl, h.1, h.2⟩
def TypedC (ts : List Nat) (cl : List Int) : Prop := ∀ c, ts.getD c 0 ≠ 0 → HasT (ts.getD c 0) (cl.getD c 0)
theorem TypedC.less {a b : List Nat} {cl : List Int} (h : TypedC b cl) (hl : LeC a b) : TypedC a cl := fun c hc => by
  have e := hl c hc
  rw [e] at hc ⊢; exact h c hc
/-- The fields have their types. -/
def FieldsT (fl : List Int) : Prop := ∀ n, n ≤ 8 → HasT (fieldTy n) (fl.getD n 0)

/-- What is known of an instruction's number. -/
structure NumOK (cells : Nat) (x : Ins) : Prop where
  op : 1 ≤ x.op ∧ x.op ≤ 18
  int : x.op = 1 → In64 x.n
  two : sizeOp x.op = 2 → 0 ≤ x.n ∧ x.n ≤ boundOp x.op cells ∧ x.n ≤ 255
  jump : sizeOp x.op = 3 → 0 ≤ x.n ∧ x.n ≤ 65535
theorem num_ok {b : List UInt8} {x : Ins} (h : InsOK b x) : NumOK (byteAt b 2) x := by
  have hn : x.n = numAt b x.op x.pl := by have := h.here; rw [this]; rfl
  have hb : sizeOp x.op = 2 → x.n = (byteAt b (x.pl + 1) : Int) := fun hs => by
    rw [hn]; unfold numAt
    rw [if_neg (by intro e; rw [e] at hs; simp [sizeOp] at hs), hs]
    simp [beVal]
  refine ⟨size_op h.size, fun h1 => ?_, fun hs => ?_, fun hs => ?_⟩
  · rw [hn]; unfold numAt; rw [if_pos h1]
    exact signed_in (by have := beVal_lt b (x.pl + 1) 8; omega)
  · have := h.bound hs
    have := byte_lt b (x.pl + 1)
    rw [hb hs]; omega
  · rw [hn]; unfold numAt
    rw [if_neg (by intro e; rw [e] at hs; simp [sizeOp] at hs), hs]
    have := beVal_lt b (x.pl + 1) 2
    simp only [Nat.reduceSub]
    omega

theorem two_hasT (op t : Nat) (a b : Int) (h : op = 7 ∨ op = 8 → t ≠ 2) : HasT t (twoOp op a b) := by
  unfold twoOp
  by_cases h7 : op = 7
  · rw [if_pos h7]; exact ⟨clamp_in _, fun e => absurd e (h (.inl h7))⟩
  rw [if_neg h7]
  by_cases h8 : op = 8
  · rw [if_pos h8]; exact ⟨clamp_in _, fun e => absurd e (h (.inr h8))⟩
  rw [if_neg h8]
  (repeat' split) <;> exact hasT_truth _ _

/-- The stack and the cells are as known. -/
structure Fits (k : Kn) (cells : Nat) (st cl : List Int) : Prop where
  typ : TypedS k.st st
  cel : TypedC k.cl cl
  len : cl.length = cells
theorem takes_st {want more : List Nat} {k k' : Kn} (h : takesK want more k = some k') : k.st = want ++ k.st.drop want.length ∧ k' = ⟨more ++ k.st.drop want.length, k.cl⟩ := by
  unfold takesK at h
  by_cases e : k.st.take want.length = want
  · rw [if_pos e] at h; simp at h
    refine ⟨?_, h.symm⟩
    conv => lhs; rw [← List.take_append_drop want.length k.st, e]
  · rw [if_neg e] at h; simp at h
/-- A step keeps to what is known. -/
theorem step_fits {cells : Nat} {fl : List Int} {x : Ins} {k k' : Kn} {st cl : List Int} (hx : NumOK cells x) (hF : FieldsT fl) (h : Fits k cells st cl) (hd : doesK x.op x.n.toNat k = some k') (h17 : ¬ (x.op = 17 ∨ x.op = 18)) :
    ∃ st' cl' j, stepK fl x st cl = some (st', cl', j) ∧ Fits k' cells st' cl' ∧ (j = true → x.op = 15 ∨ x.op = 16) ∧ (x.op = 16 → j = true) := by
  obtain ⟨kst, kcl⟩ := k
  obtain ⟨hst, hcl, hln⟩ := h
  simp only [] at hst hcl
  have hop := hx.op
  unfold doesK at hd
  unfold stepK
  simp only [] at hd
  by_cases h1 : x.op = 1
  · rw [if_pos h1] at hd; simp at hd; subst hd
    rw [if_pos (.inl h1)]
    exact ⟨_, _, _, rfl, ⟨⟨⟨hx.int h1, fun e => by simp at e⟩, hst⟩, hcl, hln⟩, by simp, by omega⟩
  rw [if_neg h1] at hd
  by_cases h2 : x.op = 2
  · rw [if_pos h2] at hd; simp at hd; subst hd
    rw [if_pos (.inr (.inl h2))]
    have hb := hx.two (by rw [h2]; rfl)
    have e : boundOp x.op cells = 1 := by unfold boundOp; rw [if_pos h2]
    exact ⟨_, _, _, rfl, ⟨⟨⟨by unfold In64; omega, fun _ => by omega⟩, hst⟩, hcl, hln⟩, by simp, by omega⟩
  rw [if_neg h2] at hd
  by_cases h3 : x.op = 3
  · rw [if_pos h3] at hd; simp at hd; subst hd
    rw [if_pos (.inr (.inr h3))]
    have hb := hx.two (by rw [h3]; rfl)
    exact ⟨_, _, _, rfl, ⟨⟨⟨by unfold In64; omega, fun e => by simp at e⟩, hst⟩, hcl, hln⟩, by simp, by omega⟩
  rw [if_neg h3] at hd
  rw [if_neg (by omega)]
  by_cases h4 : x.op = 4
  · rw [if_pos h4] at hd; simp at hd; subst hd
    rw [if_pos h4]
    have hb := hx.two (by rw [h4]; rfl)
    have e : boundOp x.op cells = 8 := by rw [h4]; rfl
    exact ⟨_, _, _, rfl, ⟨⟨hF _ (by omega), hst⟩, hcl, hln⟩, by simp, by omega⟩
  rw [if_neg h4] at hd ⊢
  by_cases h5 : x.op = 5
  · rw [if_pos h5] at hd
    rw [if_pos h5]
    have hb := hx.two (by rw [h5]; rfl)
    have e : boundOp x.op cells = cells - 1 := by rw [h5]; rfl
    cases kst with
    | nil => simp at hd
    | cons t r =>
      simp at hd; subst hd
      obtain ⟨v, q, rfl, hv, hq⟩ := hst.cons
      refine ⟨_, _, _, rfl, ⟨hq, fun c hc => ?_, by simpa using hln⟩, by simp, by omega⟩
      simp only [] at hc ⊢
      by_cases he : x.n.toNat = c
      · subst he
        by_cases hkl : x.n.toNat < kcl.length
        · rw [getD_set_eq hkl, getD_set_eq (by omega)]; exact hv
        · exfalso; apply hc
          rw [List.getD_eq_getElem?_getD, List.getElem?_eq_none (by simpa using hkl)]; rfl
      · rw [getD_set_ne he] at hc ⊢
        rw [getD_set_ne he]; exact hcl c hc
  rw [if_neg h5] at hd ⊢
  by_cases h6 : x.op = 6
  · rw [if_pos h6] at hd
    rw [if_pos h6]
    by_cases hz : kcl.getD x.n.toNat 0 = 0
    · rw [if_pos hz] at hd; simp at hd
    · rw [if_neg hz] at hd; simp only [Option.some.injEq] at hd; subst hd
      exact ⟨_, _, _, rfl, ⟨⟨hcl _ hz, hst⟩, hcl, hln⟩, by simp, by omega⟩
  rw [if_neg h6] at hd ⊢
  have two : ∀ {a b c : Nat} {r : List Nat}, kst = a :: b :: r → k' = ⟨c :: r, kcl⟩ → (x.op = 7 ∨ x.op = 8 → c ≠ 2) → ∃ st' cl' j, (match st with
      | b :: a :: r => some (twoOp x.op a b :: r, cl, false)
      | _ => none) = some (st', cl', j) ∧ Fits k' cells st' cl' ∧ (j = true → x.op = 15 ∨ x.op = 16) := by
    intro a b c r e1 e2 hc
    subst e1; subst e2
    obtain ⟨v, q, rfl, hv, hq⟩ := hst.cons
    obtain ⟨u, q, rfl, hu, hq⟩ := hq.cons
    exact ⟨_, _, _, rfl, ⟨⟨two_hasT _ _ _ _ hc, hq⟩, hcl, hln⟩, by simp⟩
  have two' : ∀ {a b c : Nat} {r : List Nat}, x.op ≠ 12 → x.op ≠ 15 → x.op ≠ 16 → kst = a :: b :: r → k' = ⟨c :: r, kcl⟩ → (x.op = 7 ∨ x.op = 8 → c ≠ 2) → ∃ st' cl' j, (if x.op = 12 then (match st with
    | [] => none
    | v :: r => some ((1 - v) :: r, cl, false))
  else if x.op = 15 then (match st with
    | [] => none
    | v :: r => some (r, cl, v == 0))
  else if x.op = 16 then some (st, cl, true)
  else (match st with
    | b :: a :: r => some (twoOp x.op a b :: r, cl, false)
    | _ => none)) = some (st', cl', j) ∧ Fits k' cells st' cl' ∧ (j = true → x.op = 15 ∨ x.op = 16) ∧ (x.op = 16 → j = true) := by
    intro a b c r n1 n2 n3 e1 e2 hc
    rw [if_neg n1, if_neg n2, if_neg n3]
    obtain ⟨s', c', j, q1, q2, q3⟩ := two e1 e2 hc
    exact ⟨s', c', j, q1, q2, q3, fun e => absurd e n3⟩
  by_cases h7 : x.op = 7 ∨ x.op = 8
  · rw [if_pos h7] at hd
    obtain ⟨e1, e2⟩ := takes_st hd
    exact two' (by omega) (by omega) (by omega) e1 e2 (fun _ => by decide)
  rw [if_neg h7] at hd
  by_cases h9 : x.op = 9
  · rw [if_pos h9] at hd
    match kst, hd with
    | [], hd => simp at hd
    | [_], hd => simp at hd
    | a :: b :: r, hd =>
      simp only [] at hd
      by_cases he : a = b
      · rw [if_pos he] at hd; simp at hd
        exact two' (by omega) (by omega) (by omega) rfl hd.symm (fun e => absurd e h7)
      · rw [if_neg he] at hd; simp at hd
  rw [if_neg h9] at hd
  by_cases h10 : x.op = 10 ∨ x.op = 11
  · rw [if_pos h10] at hd
    obtain ⟨e1, e2⟩ := takes_st hd
    exact two' (by omega) (by omega) (by omega) e1 e2 (fun e => absurd e h7)
  rw [if_neg h10] at hd
  by_cases h12 : x.op = 12
  · rw [if_pos h12] at hd
    rw [if_pos h12]
    obtain ⟨e1, e2⟩ := takes_st hd
    simp only [] at e1 e2
    rw [e1] at hst
    subst e2
    obtain ⟨v, q, rfl, hv, hq⟩ := TypedS.cons hst
    have := hv.2 rfl
    refine ⟨_, _, _, rfl, ⟨⟨⟨by unfold In64; omega, fun _ => by omega⟩, hq⟩, hcl, hln⟩, by simp, by omega⟩
  rw [if_neg h12] at hd
  by_cases h13 : x.op = 13 ∨ x.op = 14
  · rw [if_pos h13] at hd
    obtain ⟨e1, e2⟩ := takes_st hd
    exact two' (by omega) (by omega) (by omega) e1 e2 (fun e => absurd e h7)
  rw [if_neg h13] at hd
  rw [if_neg h12]
  by_cases h15 : x.op = 15
  · rw [if_pos h15] at hd
    rw [if_pos h15]
    obtain ⟨e1, e2⟩ := takes_st hd
    simp only [] at e1 e2
    rw [e1] at hst
    subst e2
    obtain ⟨v, q, rfl, hv, hq⟩ := TypedS.cons hst
    exact ⟨_, _, _, rfl, ⟨hq, hcl, hln⟩, fun _ => .inl h15, by omega⟩
  rw [if_neg h15] at hd
  simp at hd; subst hd
  rw [if_neg h15, if_pos (by omega)]
  exact ⟨_, _, _, rfl, ⟨hst, hcl, hln⟩, fun _ => .inr (by omega), fun _ => rfl⟩

/-- The instruction behind a step. -/
theorem next_in {ins : List Ins} {i : Nat} {x : Ins} {j : Bool} (hj : j = true → x.op = 15 ∨ x.op = 16) (h16 : x.op = 16 → j = true) (h17 : ¬ (x.op = 17 ∨ x.op = 18)) : (if j then jumpTo ins x else (if i + 1 < ins.length then some (i + 1) else none)) ∈ leadsK ins i x := by
  unfold leadsK
  cases j with
  | true =>
    rcases hj rfl with h | h
    · rw [if_pos h]; simp
    · rw [if_neg (by omega), if_pos h]; simp
  | false =>
    have h1 : x.op ≠ 16 := fun e => by simpa using h16 e
    by_cases h : x.op = 15
    · rw [if_pos h]; simp
    · rw [if_neg h, if_neg h1, if_neg h17]; simp

theorem run_ok {b : List UInt8} {ins : List Ins} {depth cells : Nat} {fl : List Int} {C : Nat → Option Kn} (h : CodeOK b ins) (hc : byteAt b 2 = cells) (hF : FieldsT fl) (hG : Good ins depth 0 C) : ∀ (m i : Nat) (st cl : List Int) (n : Nat) (k : Kn), ins.length - i ≤ m → i < ins.length → C i = some k → Fits k cells st cl →
    ∃ a r s, runK ins fl m i st cl n = some (a, r, s) ∧ n < s ∧ s ≤ n + (ins.length - i) ∧ r ≤ 255 := by
  intro m
  induction m with
  | zero => intro i st cl n k h1 h2; omega
  | succ m ih =>
    intro i st cl n k hm hi hk hft
    rw [runK, if_pos hi]
    have hx := num_ok (h.each _ (getD_ins hi))
    rw [hc] at hx
    by_cases h17 : (ins.getD i noIns).op = 17 ∨ (ins.getD i noIns).op = 18
    · rw [if_pos h17]
      have h2 := hx.two (by rcases h17 with e | e <;> rw [e] <;> rfl)
      exact ⟨_, _, _, rfl, by omega, by omega, by omega⟩
    · rw [if_neg h17]
      obtain ⟨k', hd, hdp, hl⟩ := hG i (by omega) hi k hk
      obtain ⟨st', cl', j, hs, hft', hj, h16⟩ := step_fits hx hF hft hd h17
      rw [hs]
      have hnx := next_in (ins := ins) (i := i) hj h16 h17
      obtain ⟨q, e, h1, h2, h3⟩ := hl _ hnx
      obtain ⟨kq, e2, e3, e4⟩ := h3 k' rfl
      have hftq : Fits kq cells st' cl' := ⟨by rw [e3]; exact hft'.typ, hft'.cel.less e4, hft'.len⟩
      obtain ⟨a, r, s, i1, i2, i3, i4⟩ := ih q st' cl' (n + 1) kq (by omega) h2 e2 hftq
      cases j with
      | true =>
        have e : jumpTo ins (ins.getD i noIns) = some q := e
        simp only []
        rw [e]
        exact ⟨a, r, s, i1, by omega, by omega, i4⟩
      | false =>
        have e : (if i + 1 < ins.length then some (i + 1) else none) = some q := e
        split at e
        · simp at e; subst e
          exact ⟨a, r, s, i1, by omega, by omega, i4⟩
        · simp at e
theorem come0_len (cells n : Nat) (h : 0 < n) : (come0 cells n).length = n := by simp [come0]; omega
/-- What is known of a code that may be one. -/
theorem load_known {b : List UInt8} {ins : List Ins} (h : loadOf b = some ins) : 4 ≤ b.length ∧ b.length ≤ 4000 ∧ CodeOK b ins ∧ 0 < ins.length ∧ ins.length ≤ b.length ∧ byteAt b 1 ≤ 24 ∧ ∃ C : Nat → Option Kn, C 0 = some ⟨[], List.replicate (byteAt b 2) 0⟩ ∧ Good ins (byteAt b 1) 0 C := by
  unfold loadOf at h
  by_cases h1 : b.length < 4 ∨ 4000 < b.length ∨ byteAt b 0 ≠ 71 ∨ 24 < byteAt b 1
  · rw [if_pos h1] at h; simp at h
  rw [if_neg h1] at h
  cases hd : dec (b.length + 1) b 3 with
  | none => rw [hd] at h; simp at h
  | some q =>
    rw [hd] at h
    simp only [] at h
    by_cases hf : flowK q (byteAt b 1) q 0 (come0 (byteAt b 2) q.length) = true
    · rw [if_pos hf] at h; simp at h; subst h
      obtain ⟨d1, d2⟩ := dec_ok _ hd (by omega)
      have hc : CodeOK b q := ⟨d1, d2⟩
      have hle := (behind_le (fun x hx => (d1 x hx).size) d2).1
      have hpos : 0 < q.length := by
        cases q with
        | nil => unfold Behind at d2; omega
        | cons x r => simp
      obtain ⟨C, c1, c2, c3⟩ := flow_good hc (byteAt b 1) _ 0 (come0 (byteAt b 2) q.length) rfl (come0_len _ _ hpos) hf
      exact ⟨by omega, by omega, hc, hpos, by omega, by omega, C, (c1 0 (Nat.le_refl _)).trans rfl, c3⟩
    · rw [if_neg hf] at h; simp at h
/-- What the machine ends with. -/
def judgeOf (b : List UInt8) (ins : List Ins) (fl : List Int) : Option (Bool × Nat × Nat) := runK ins fl ins.length 0 [] (List.replicate (byteAt b 2) 0) 0
theorem judge_ok {b : List UInt8} {ins : List Ins} {fl : List Int} (h : loadOf b = some ins) (hF : FieldsT fl) : ∃ a r s, judgeOf b ins fl = some (a, r, s) ∧ 0 < s ∧ s ≤ b.length ∧ r ≤ 255 := by
  obtain ⟨h1, h2, h3, h4, h5, h6, C, h7, h8⟩ := load_known h
  obtain ⟨a, r, s, e, i1, i2, i3⟩ := run_ok h3 rfl hF h8 ins.length 0 [] (List.replicate (byteAt b 2) 0) 0 _ (by omega) h4 h7 ⟨trivial, fun c hc => by
    exfalso; apply hc
    simp [List.getD_eq_getElem?_getD, List.getElem?_replicate]
    split <;> rfl, by simp⟩
  exact ⟨a, r, s, e, i1, by omega, i3⟩
end Go.Proofs.YtfkdailfcmnjlaaGreatDoor

namespace Go.Proofs.YtfkdailfcmnjlaaGreatDoor
open Go Go.RowKit
set_option maxRecDepth 100000

theorem byte_app {b c : List UInt8} {i : Nat} (h : i < b.length) : byteAt (b ++ c) i = byteAt b i := by
  unfold byteAt; rw [List.getD_eq_getElem?_getD, List.getD_eq_getElem?_getD, List.getElem?_append_left h]
end Go.Proofs.YtfkdailfcmnjlaaGreatDoor
