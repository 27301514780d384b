/-
  A condition in the program's memory; the joining words. Types of parts: as the program numbers them, by kinds of words. What a condition tells: plain Lean functions; a condition of a type tells a value of it. The document's fields of an event in a state. The program's level of a user and what a user is to the room. The program's reader: a word that stands alone. The program's reader: 'fork', 'join'; what the method values lead to. The program's reader: 'join'. The program's trees: one part more over two, over one, over three. The program's reader: 'chain'.
-/
import Derived.Test.YtfkdailfcmnjlaaGreatDoorTells01
import Derived.Test.YtfkdailfcmnjlaaGreatDoorTells02
import Derived.Test.YtfkdailfcmnjlaaGreatDoorTells04
import Derived.Test.YtfkdailfcmnjlaaGreatDoorTells05
import Derived.Test.YtfkdailfcmnjlaaGreatDoorTells06
import Derived.Test.YtfkdailfcmnjlaaGreatDoorTells07
import Derived.Test.YtfkdailfcmnjlaaGreatDoorTells08
import Derived.Test.YtfkdailfcmnjlaaGreatDoorTells09
import Derived.Test.YtfkdailfcmnjlaaGreatDoorTells10
import Derived.Test.YtfkdailfcmnjlaaGreatDoorTells11
import Derived.Test.YtfkdailfcmnjlaaGreatDoorTells12
import Derived.Test.YtfkdailfcmnjlaaGreatDoorLays
import Derived.WalkKit
import Derived.Deep.QuietTactic
import Derived.BigQuiet
import Derived.WalkSpells
import GoSem.Op.String
import Derived.Deep.AppendLies
import Derived.Deep.RegionHeld3
import Derived.Deep.DrawnRows
import Derived.Deep.RegionHeldLaw
import Derived.Deep.RegionLaw
import Derived.Lib.ParseIntBCases
set_option linter.unusedVariables false
set_option linter.unusedSimpArgs false
namespace Go.Proofs.YtfkdailfcmnjlaaGreatDoor
open Go Go.RowKit
set_option maxRecDepth 100000

/-- The kinds that join at a level, as the program lists them. -/
def joinK (n : Nat) : List Nat := if n = 0 then [17] else if n = 1 then [18] else if n = 3 then [8, 10, 9] else [6, 7]
theorem join_texts : ∀ n, n ≤ 4 → ∀ x ∈ spell.drop 3, decide (0 ≤ idx (signsOf n) x) = (joinK n).contains (kn x) := by
  intro n hn
  have h : ∀ n : Fin 5, ∀ x ∈ spell.drop 3, decide (0 ≤ idx (signsOf n.1) x) = (joinK n.1).contains (kn x) := by decide
  exact h ⟨n, by omega⟩
theorem joinK_small : ∀ n, n ≤ 4 → ∀ x ∈ joinK n, 3 ≤ x := by
  intro n hn
  have h : ∀ n : Fin 5, ∀ x ∈ joinK n.1, 3 ≤ x := by decide
  exact h ⟨n, by omega⟩
theorem joins_iff {n : Nat} (hn : n ≤ 4) {t : Tok} (h : TokW t) : joins n t = (joinK n).contains (kindOf t) := by
  have hno : ∀ k, k < 3 → (joinK n).contains k = false := fun k hk => by
    rw [Bool.eq_false_iff]; intro e; rw [List.contains_iff_mem] at e
    have := joinK_small n hn k e; omega
  unfold joins
  rcases h.cases with h | h | h | ⟨h, hm⟩
  · rw [show kindOf t = 1 from by unfold kindOf; rw [if_pos h], hno 1 (by omega), h]; simp
  · rw [show kindOf t = 2 from by unfold kindOf; rw [if_neg (by omega), if_pos h], hno 2 (by omega), h]; simp
  · rw [show kindOf t = 0 from by unfold kindOf; rw [if_neg (by omega), if_neg (by omega), if_pos h], hno 0 (by omega), h]; simp
  · rw [kind_word h, ← join_texts n hn _ hm]
    rcases h with h | h <;> rw [h] <;> simp

/-- A condition's block. -/
def cdObj (t : Tok) (u : Value) (n : Int) : Obj := .cells #[.int .i64 (kindOf t), .int .i64 t.pl, .int .i64 (nmOf t), S (ownOf t), u, .int .i64 n] 229 (0, 0)
/-- The list of what stands under a condition. -/
def UnderAt (w : World) (u : Value) (n : Nat) (bl : Nat → Nat) : Prop :=
  (n = 0 ∧ u = .slice none 0 0) ∨ (0 < n ∧ ∃ g, u = .slice (some ⟨g, 0, none⟩) n n ∧ w.heap[g]? = some (.cells ((List.range n).map fun j => Value.pointer (some ⟨bl j, 0, none⟩)).toArray 161 (0, 0)))

/-- The part of a list lies at a block, not below a bound, as the program's tree. -/
structure CondAt (L : List Pt) (lt : Nat) (w : World) (i b : Nat) : Prop where
  lay ::
  out : ∀ C : Nat → Nat → Prop, (∀ (i b : Nat) (u : Value) (bl : Nat → Nat), i < L.length → lt ≤ b → w.heap[b]? = some (cdObj (L.getD i noPt).tok u 0) → UnderAt w u (L.getD i noPt).subs.length bl →
    (∀ j, j < (L.getD i noPt).subs.length → (L.getD i noPt).subs.getD j 0 < i) → (∀ j, j < (L.getD i noPt).subs.length → C ((L.getD i noPt).subs.getD j 0) (bl j)) → C i b) → C i b
theorem CondAt.mk {L : List Pt} {lt : Nat} {w : World} (i b : Nat) (u : Value) (bl : Nat → Nat) (hi : i < L.length) (hlo : lt ≤ b) (hb : w.heap[b]? = some (cdObj (L.getD i noPt).tok u 0))
    (hu : UnderAt w u (L.getD i noPt).subs.length bl) (hlt : ∀ j, j < (L.getD i noPt).subs.length → (L.getD i noPt).subs.getD j 0 < i)
    (hs : ∀ j, j < (L.getD i noPt).subs.length → CondAt L lt w ((L.getD i noPt).subs.getD j 0) (bl j)) : CondAt L lt w i b :=
  ⟨fun C hC => hC i b u bl hi hlo hb hu hlt fun j hj => (hs j hj).out C hC⟩
theorem CondAt.ind {L : List Pt} {lt : Nat} {w : World} (M : Nat → Nat → Prop)
    (hM : ∀ (i b : Nat) (u : Value) (bl : Nat → Nat), i < L.length → lt ≤ b → w.heap[b]? = some (cdObj (L.getD i noPt).tok u 0) → UnderAt w u (L.getD i noPt).subs.length bl →
      (∀ j, j < (L.getD i noPt).subs.length → (L.getD i noPt).subs.getD j 0 < i) → (∀ j, j < (L.getD i noPt).subs.length → CondAt L lt w ((L.getD i noPt).subs.getD j 0) (bl j)) → (∀ j, j < (L.getD i noPt).subs.length → M ((L.getD i noPt).subs.getD j 0) (bl j)) → M i b)
    {i b : Nat} (h : CondAt L lt w i b) : M i b :=
  (h.out (fun i b => CondAt L lt w i b ∧ M i b) fun i b u bl hi hlo hb hu hlt hs => ⟨.mk i b u bl hi hlo hb hu hlt fun j hj => (hs j hj).1, hM i b u bl hi hlo hb hu hlt (fun j hj => (hs j hj).1) fun j hj => (hs j hj).2⟩).2

/-- The tree stays where no block of conditions or of lists of them turns. -/
theorem CondAt.keep {L : List Pt} {lt : Nat} {w w' : World} {i b : Nat} (h : CondAt L lt w i b)
    (hk : ∀ (k : Nat) (cs : Array Value) (ty : TypeId), w.heap[k]? = some (Obj.cells cs ty (0, 0)) → ty = 229 ∨ ty = 161 → w'.heap[k]? = w.heap[k]?) : CondAt L lt w' i b := by
  refine h.ind (fun i b => CondAt L lt w' i b) ?_
  · intro i b u bl hi hlo hb hu hlt hs ih
    refine .mk i b u bl hi hlo ?_ ?_ hlt ih
    · rw [hk b _ _ hb (.inl rfl)]; exact hb
    · rcases hu with hu | ⟨h0, g, h1, h2⟩
      · exact .inl hu
      · exact .inr ⟨h0, g, h1, by rw [hk g _ _ h2 (.inr rfl)]; exact h2⟩
theorem CondAt.pf {L : List Pt} {lt : Nat} {rb gl cl : Nat} {ts : List Tok} {s : Q} {w w' : World} {i b : Nat} (h : CondAt L lt w i b) (hr : RR rb gl cl ts s w) (hf : PF rb w w') : CondAt L lt w' i b :=
  h.keep fun k cs ty hk ht => hf.block k (lt_of_get hk) fun e => by
    rw [e, hr.rd] at hk
    simp only [rdObj, Option.some.injEq, Obj.cells.injEq] at hk
    have h1 := hk.2.1
    rw [← h1] at ht
    exact absurd ht (by decide)
theorem CondAt.more {L L' : List Pt} {lt : Nat} {w : World} {i b : Nat} (h : CondAt L lt w i b) (hl : L.length ≤ L'.length) (hg : ∀ k, k < L.length → L'.getD k noPt = L.getD k noPt) : CondAt L' lt w i b := by
  refine h.ind (fun i b => CondAt L' lt w i b) ?_
  · intro i b u bl hi hlo hb hu hlt hs ih
    have e := hg i hi
    exact .mk i b u bl (by omega) hlo (by rw [e]; exact hb) (by rw [e]; exact hu) (by rw [e]; exact hlt) (by rw [e]; exact ih)
theorem CondAt.put {L : List Pt} {lt : Nat} {w : World} {i b : Nat} (h : CondAt L lt w i b) (p : Pt) : CondAt (L ++ [p]) lt w i b :=
  h.more (by simp) (fun k hk => by simp [List.getD_eq_getElem?_getD, List.getElem?_append_left hk])
end Go.Proofs.YtfkdailfcmnjlaaGreatDoor

namespace Go.Proofs.YtfkdailfcmnjlaaGreatDoor
open Go Go.RowKit
set_option maxRecDepth 100000

/-- The type of a word that stands alone, by its kind. -/
def wordK (k : Nat) : Nat := if k = 1 ∨ (27 ≤ k ∧ k ≤ 30) then 1 else if k = 20 ∨ k = 21 ∨ k = 34 ∨ k = 35 then 2 else if (22 ≤ k ∧ k ≤ 26) ∨ (31 ≤ k ∧ k ≤ 33) then 3 else 0
def ifAllK (us : List Nat) (want give : Nat) : Nat := if us.all (fun u => u == want) then give else 0
/-- The type over parts of types. -/
def overK (k : Nat) (us : List Nat) : Nat :=
  if k = 6 ∨ k = 7 then ifAllK us 1 1 else if k = 10 ∨ k = 9 then ifAllK us 1 2 else if k = 8 then ifAllK us (us.getD 0 0) 2
  else if k = 17 ∨ k = 18 ∨ k = 19 then ifAllK us 2 2
  else if k = 14 then (if us.getD 0 0 = 2 then ifAllK (us.drop 1) (us.getD 1 0) (us.getD 1 0) else 0) else 0

abbrev isTy (c : UInt8) : Prop := c = 110 ∨ c = 116 ∨ c = 109
theorem isTy_mem {c : UInt8} (h : isTy c) : c ∈ ([110, 116, 109] : List UInt8) := by
  rcases h with rfl | rfl | rfl <;> decide
theorem tcode_zero {c : UInt8} (h : c = 0 ∨ isTy c) : tcode c = 0 ↔ c = 0 := by
  rcases h with rfl | rfl | rfl | rfl <;> decide
/-- The type by the text alone. -/
def tyT (x s : List UInt8) : UInt8 := UInt8.ofNat (tyCase [] [] ⟨107, x, 0⟩ s)
theorem tyT_eq (xs : List Itm) (its : List UInt8) {t : Tok} (h1 : t.k ≠ 110) (h2 : t.k ≠ 111) (s : List UInt8) : UInt8.ofNat (tyCase xs its t s) = tyT t.text s := by
  unfold tyT tyCase
  rw [if_neg h1, if_neg h2]
  simp only []
  rw [if_neg (show ¬ (107 : Nat) = 110 by decide), if_neg (show ¬ (107 : Nat) = 111 by decide)]
theorem leaf_ty : ∀ x ∈ spell.drop 11, (decide (0 ≤ idx kMembers x) || decide (0 ≤ idx kFields x) || x == wTrue || x == wFalse) = true → tcode (tyT x []) = wordK (kn x) ∧ isTy (tyT x []) := by decide
theorem over2_ty : ∀ x ∈ ([[43], [45], [60], [60, 61], [61], [111, 114], [97, 110, 100]] : List (List UInt8)), ∀ a ∈ ([110, 116, 109] : List UInt8), ∀ b ∈ ([110, 116, 109] : List UInt8), tcode (tyT x [a, b]) = overK (kn x) [tcode a, tcode b] ∧ (tyT x [a, b] = 0 ∨ isTy (tyT x [a, b])) := by decide
theorem over1_ty : ∀ a ∈ ([110, 116, 109] : List UInt8), tcode (tyT wNot [a]) = overK (kn wNot) [tcode a] ∧ (tyT wNot [a] = 0 ∨ isTy (tyT wNot [a])) := by decide
theorem over3_ty : ∀ a ∈ ([110, 116, 109] : List UInt8), ∀ b ∈ ([110, 116, 109] : List UInt8), ∀ c ∈ ([110, 116, 109] : List UInt8), tcode (tyT wIf [a, b, c]) = overK (kn wIf) [tcode a, tcode b, tcode c] ∧ (tyT wIf [a, b, c] = 0 ∨ isTy (tyT wIf [a, b, c])) := by decide
theorem len_two {l : List Nat} (h : l.length = 2) : ∃ a b, l = [a, b] := by
  match l, h with
  | [a, b], _ => exact ⟨a, b, rfl⟩
theorem len_three {l : List Nat} (h : l.length = 3) : ∃ a b c, l = [a, b, c] := by
  match l, h with
  | [a, b, c], _ => exact ⟨a, b, c, rfl⟩
theorem joins_text {n : Nat} {t : Tok} (h : joins n t = true) : t.text ∈ ([[43], [45], [60], [60, 61], [61], [111, 114], [97, 110, 100]] : List (List UInt8)) ∧ (t.k = 107 ∨ t.k = 115) := by
  unfold joins at h
  simp only [Bool.and_eq_true, decide_eq_true_eq, Bool.or_eq_true, beq_iff_eq] at h
  refine ⟨?_, h.2⟩
  have hm := idx_mem h.1
  unfold signsOf at hm
  split at hm
  · simp at hm; rw [hm]; decide
  · split at hm
    · simp at hm; rw [hm]; decide
    · split at hm
      · simp at hm; rcases hm with hm | hm | hm <;> rw [hm] <;> decide
      · simp at hm; rcases hm with hm | hm <;> rw [hm] <;> decide
theorem isW_text {t : Tok} {x : List UInt8} (h : isW t x = true) : t.text = x ∧ (t.k = 107 ∨ t.k = 115) := by
  unfold isW at h; simp at h; exact ⟨h.2, h.1⟩

/-- What the types under a part make of it: the program's way. -/
theorem ty_leaf (xs : List Itm) (its : List UInt8) {t : Tok} (ht : TokW t) (ha : alone t = true) (ho : t.k ≠ 111) : tcode (UInt8.ofNat (tyCase xs its t [])) = wordK (kindOf t) ∧ isTy (UInt8.ofNat (tyCase xs its t [])) := by
  rcases ht with h | h | h | ⟨h, hm⟩ | ⟨h, hm⟩
  · have e : tyCase xs its t [] = 110 := by unfold tyCase; rw [if_pos h]
    rw [e]; unfold kindOf; rw [if_pos h]; decide
  · exact absurd h ho
  · rw [alone, h] at ha; simp at ha
  · have hx : (decide (0 ≤ idx kMembers t.text) || decide (0 ≤ idx kFields t.text) || t.text == wTrue || t.text == wFalse) = true := by
      rw [alone, h] at ha; simpa using ha
    rw [tyT_eq xs its (by omega) (by omega), kind_word (.inl h)]
    exact leaf_ty _ hm hx
  · rw [alone, h] at ha; simp at ha
theorem ty_over {xs : List Itm} {its : List UInt8} {p : Pt} (hs : Shape p) (hn : p.subs ≠ []) {F : Nat → UInt8} (hF : ∀ j ∈ p.subs, isTy (F j)) :
    tcode (UInt8.ofNat (tyCase xs its p.tok (p.subs.map F))) = overK (kindOf p.tok) (p.subs.map fun j => tcode (F j)) ∧ (UInt8.ofNat (tyCase xs its p.tok (p.subs.map F)) = 0 ∨ isTy (UInt8.ofNat (tyCase xs its p.tok (p.subs.map F)))) := by
  rcases hs with ⟨_, h⟩ | ⟨h, hl⟩ | ⟨h, hl⟩ | ⟨n, _, h, hl⟩
  · exact absurd h hn
  · obtain ⟨e, hk⟩ := isW_text h
    obtain ⟨a, ea⟩ : ∃ a, p.subs = [a] := List.length_eq_one_iff.1 hl
    rw [tyT_eq xs its (by omega) (by omega), kind_word hk, e, ea]
    exact over1_ty _ (isTy_mem (hF a (by simp [ea])))
  · obtain ⟨e, hk⟩ := isW_text h
    obtain ⟨a, b, c, ea⟩ : ∃ a b c, p.subs = [a, b, c] := len_three hl
    rw [tyT_eq xs its (by omega) (by omega), kind_word hk, e, ea]
    exact over3_ty _ (isTy_mem (hF a (by simp [ea]))) _ (isTy_mem (hF b (by simp [ea]))) _ (isTy_mem (hF c (by simp [ea])))
  · obtain ⟨e, hk⟩ := joins_text h
    obtain ⟨a, b, ea⟩ : ∃ a b, p.subs = [a, b] := len_two hl
    rw [tyT_eq xs its (by omega) (by omega), kind_word hk, ea]
    exact over2_ty _ e _ (isTy_mem (hF a (by simp [ea]))) _ (isTy_mem (hF b (by simp [ea])))

/-- Every own name of some parts has a let among the first items. -/
def Given (xs : List Itm) (n : Nat) (L : List Pt) (lo hi : Nat) : Prop := ∀ q, lo ≤ q → q < hi → (L.getD q noPt).tok.k = 111 → (L.getD q noPt).tok.text ≠ [] ∧ 0 ≤ letIx xs (L.getD q noPt).tok.text n

theorem forest_bounds {f : Nat} {L : List Pt} (js : List Nat) : ∀ {lo hi}, Forest (TreeF f L) lo js hi → ∀ j ∈ js, ∃ lo', lo ≤ lo' ∧ j < hi ∧ TreeF f L lo' j := by
  induction js with
  | nil => intro lo hi _ j hj; simp at hj
  | cons x js ih =>
    intro lo hi h j hj
    have h1 := h.1.le
    have h2 := forest_le (T := TreeF f L) (fun lo j hj => hj.le) js h.2
    simp at hj
    rcases hj with rfl | hj
    · exact ⟨lo, Nat.le_refl _, by omega, h.1⟩
    · obtain ⟨lo', a, b, c⟩ := ih h.2 j hj
      exact ⟨lo', by omega, b, c⟩

theorem letIx_its {xs : List Itm} {its : List UInt8} (hi : ∀ c ∈ its, isTy c) (s : List UInt8) (h0 : 0 ≤ letIx xs s its.length) : isTy (its.getD (letIx xs s its.length).toNat 0) := by
  have h1 := (letIx_lt xs s its.length).1
  have h2 : (letIx xs s its.length).toNat < its.length := by omega
  rw [List.getD_eq_getElem?_getD, List.getElem?_eq_getElem h2]
  exact hi _ (List.getElem_mem h2)

theorem tyOf_ty {xs : List Itm} {its : List UInt8} {L : List Pt} (hW : ∀ k, k < L.length → TokW (L.getD k noPt).tok) (hi : ∀ c ∈ its, isTy c) (f : Nat) : ∀ {lo i : Nat}, TreeF f L lo i → Given xs its.length L lo (i + 1) → tyOf xs its L f i = 0 ∨ isTy (tyOf xs its L f i) := by
  induction f with
  | zero => intro lo i h; exact h.elim
  | succ f ih =>
    intro lo i h hg
    rw [tyOf]
    split
    · exact .inl rfl
    · rename_i hc
      by_cases ho : (L.getD i noPt).tok.k = 111
      · right
        have := letIx_its hi _ (hg i h.le (by omega) ho).2
        have e : tyCase xs its (L.getD i noPt).tok ((L.getD i noPt).subs.map (tyOf xs its L f)) = (its.getD (letIx xs (L.getD i noPt).tok.text its.length).toNat 0).toNat := by
          unfold tyCase; rw [if_neg (by omega), if_pos ho]
        rw [e, UInt8.ofNat_toNat]; exact this
      · by_cases hs : (L.getD i noPt).subs = []
        · rw [hs]
          have ha : alone (L.getD i noPt).tok = true := by
            rcases h.2.1 with ⟨h1, _⟩ | ⟨_, h1⟩ | ⟨_, h1⟩ | ⟨n, _, _, h1⟩
            · exact h1
            all_goals (rw [hs] at h1; simp at h1)
          exact .inr (ty_leaf xs its (hW i h.1) ha ho).2
        · refine (ty_over h.2.1 hs fun j hj => ?_).2
          obtain ⟨lo', a, b, c⟩ := forest_bounds _ h.2.2 j hj
          rcases ih c (fun q h1 h2 => hg q (by omega) (by omega)) with h0 | h0
          · exact absurd (by rw [List.contains_iff_mem, ← h0]; exact List.mem_map_of_mem hj) hc
          · exact h0
end Go.Proofs.YtfkdailfcmnjlaaGreatDoor

namespace Go.Proofs.YtfkdailfcmnjlaaGreatDoor
open Go Go.RowKit
set_option maxRecDepth 100000

/-- What a word tells that stands alone. -/
def wordI (xs : List Itm) (vals fl : List Int) (t : Tok) : Int :=
  if t.k = 110 then decVal t.text else if t.k = 111 then vals.getD (letIx xs t.text vals.length).toNat 0
  else if 0 ≤ idx kFields t.text then fl.getD (idx kFields t.text).toNat 0 else if 0 ≤ idx kMembers t.text then idx kMembers t.text else truthI (t.text == wTrue)
/-- What a part tells, by what the parts under it tell. -/
def overI (s : List UInt8) (w : Int) : List Int → Int
  | [] => w
  | [a] => 1 - a
  | [a, b] => twoI s a b
  | a :: b :: c :: _ => if a = 1 then b else c
def tellF (xs : List Itm) (vals fl : List Int) (L : List Pt) : Nat → Nat → Int
  | 0, _ => 0
  | f + 1, k => overI (L.getD k noPt).tok.text (wordI xs vals fl (L.getD k noPt).tok) ((L.getD k noPt).subs.map (tellF xs vals fl L f))

/-- A value of a type. -/
def Has (c : UInt8) (v : Int) : Prop := In64 v ∧ (c = 116 → v = 0 ∨ v = 1)
theorem has_truth (c : UInt8) (b : Bool) : Has c (truthI b) := by
  unfold truthI Has In64; cases b <;> simp
def tysF : List UInt8 := [110, 110, 110, 110, 109, 109, 109, 116, 116]
structure FieldsOK (fl : List Int) : Prop where
  len : fl.length = 9
  has : ∀ i, i < 9 → Has (tysF.getD i 0) (fl.getD i 0)
structure ValsOK (its : List UInt8) (vals : List Int) : Prop where
  len : vals.length = its.length
  has : ∀ i, i < its.length → Has (its.getD i 0) (vals.getD i 0)
theorem ValsOK.snoc {its : List UInt8} {vals : List Int} (h : ValsOK its vals) {c : UInt8} {v : Int} (hv : Has c v) : ValsOK (its ++ [c]) (vals ++ [v]) := by
  refine ⟨by simp [h.len], fun i hi => ?_⟩
  have hl := h.len
  rcases Nat.lt_or_ge i its.length with h1 | h1
  · have := h.has i h1
    rw [List.getD_eq_getElem?_getD, List.getD_eq_getElem?_getD] at this ⊢
    rw [List.getElem?_append_left (by omega), List.getElem?_append_left (by omega)]; exact this
  · have e : i = its.length := by simp at hi; omega
    subst e
    rw [List.getD_eq_getElem?_getD, List.getD_eq_getElem?_getD, List.getElem?_append_right (by omega), List.getElem?_append_right (by omega), hl]
    simpa using hv

theorem two_has (s : List UInt8) {a b : Int} (c : UInt8) (h : s = [43] ∨ s = [45] → c ≠ 116) : Has c (twoI s a b) := by
  unfold twoI
  by_cases h0 : s = [43]
  · rw [if_pos h0]; exact ⟨clamp_in _, fun e => absurd e (h (.inl h0))⟩
  rw [if_neg h0]
  by_cases h1 : s = [45]
  · rw [if_pos h1]; exact ⟨clamp_in _, fun e => absurd e (h (.inr h1))⟩
  rw [if_neg h1]
  split
  · exact has_truth _ _
  split
  · exact has_truth _ _
  split
  · exact has_truth _ _
  split
  · exact has_truth _ _
  · exact has_truth _ _
theorem fields_idx (x : List UInt8) (h : 0 ≤ idx kFields x) : ∃ n : Nat, idx kFields x = n ∧ n < 9 := by
  have := idx_lt kFields x
  have e : (kFields.length : Int) = 9 := rfl
  exact ⟨(idx kFields x).toNat, by omega, by omega⟩
theorem members_idx (x : List UInt8) (h : 0 ≤ idx kMembers x) : idx kMembers x < 5 := by
  have := idx_lt kMembers x
  have e : (kMembers.length : Int) = 5 := rfl
  omega
theorem ty_plus (x : List UInt8) (h : x = [43] ∨ x = [45]) (s : List UInt8) : tyT x s ≠ 116 := by
  have e : tyT x s = UInt8.ofNat (if s = [110, 110] then 110 else 0) := by
    rcases h with rfl | rfl <;> rfl
  rw [e]; split <;> decide
theorem ty_not (s : List UInt8) (h : tyT wNot s ≠ 0) : s = [116] := by
  have e : tyT wNot s = UInt8.ofNat (if s = [116] then 116 else 0) := rfl
  rw [e] at h
  by_cases h1 : s = [116]
  · exact h1
  · rw [if_neg h1] at h; exact absurd rfl h
theorem ty_if {a b c : UInt8} (h : tyT wIf [a, b, c] ≠ 0) : a = 116 ∧ b = c ∧ tyT wIf [a, b, c] = b := by
  have e : tyT wIf [a, b, c] = UInt8.ofNat (if a.toNat = 116 ∧ b.toNat = c.toNat then b.toNat else 0) := rfl
  rw [e] at h
  by_cases h1 : a.toNat = 116 ∧ b.toNat = c.toNat
  · refine ⟨UInt8.toNat_inj.1 h1.1, UInt8.toNat_inj.1 h1.2, ?_⟩
    rw [e, if_pos h1, UInt8.ofNat_toNat]
  · rw [if_neg h1] at h; exact absurd rfl h

theorem word_has {xs : List Itm} {its : List UInt8} {vals fl : List Int} (hV : ValsOK its vals) (hF : FieldsOK fl) {t : Tok} (ha : alone t = true) (hn : t.k = 110 → decVal t.text ≤ 9223372036854775807)
    (ho : t.k = 111 → 0 ≤ letIx xs t.text its.length) : Has (UInt8.ofNat (tyCase xs its t [])) (wordI xs vals fl t) := by
  unfold wordI tyCase
  by_cases h1 : t.k = 110
  · rw [if_pos h1, if_pos h1]
    have := hn h1
    exact ⟨by unfold In64; omega, fun e => absurd e (by decide)⟩
  rw [if_neg h1, if_neg h1]
  by_cases h2 : t.k = 111
  · rw [if_pos h2, if_pos h2, hV.len]
    have h3 := ho h2
    have h4 := (letIx_lt xs t.text its.length).1
    rw [UInt8.ofNat_toNat]
    exact hV.has _ (by omega)
  rw [if_neg h2, if_neg h2]
  by_cases h3 : 0 ≤ idx kFields t.text
  · rw [if_pos h3, if_pos h3]
    obtain ⟨n, e, hn9⟩ := fields_idx _ h3
    rw [e, Int.toNat_natCast, UInt8.ofNat_toNat]
    exact hF.has n hn9
  rw [if_neg h3, if_neg h3]
  by_cases h4 : 0 ≤ idx kMembers t.text
  · rw [if_pos h4, if_pos h4]
    have := members_idx _ h4
    exact ⟨by unfold In64; omega, fun e => absurd e (by decide)⟩
  rw [if_neg h4, if_neg h4]
  exact has_truth _ _

/-- A condition of a type tells a value of it. -/
theorem tell_has {xs : List Itm} {its : List UInt8} {vals fl : List Int} {L : List Pt} (hV : ValsOK its vals) (hF : FieldsOK fl) (hN : ∀ k, k < L.length → (L.getD k noPt).tok.k = 110 → decVal (L.getD k noPt).tok.text ≤ 9223372036854775807) (f : Nat) :
    ∀ {lo i : Nat}, TreeF f L lo i → Given xs its.length L lo (i + 1) → tyOf xs its L f i ≠ 0 → Has (tyOf xs its L f i) (tellF xs vals fl L f i) := by
  induction f with
  | zero => intro lo i h; exact h.elim
  | succ f ih =>
    intro lo i h hg hty
    rw [tellF]
    rw [tyOf] at hty ⊢
    by_cases hc : ((L.getD i noPt).subs.map (tyOf xs its L f)).contains 0 = true
    · rw [if_pos hc] at hty; exact absurd rfl hty
    rw [if_neg hc] at hty ⊢
    have hsub : ∀ j ∈ (L.getD i noPt).subs, Has (tyOf xs its L f j) (tellF xs vals fl L f j) := fun j hj => by
      obtain ⟨lo', a, b, c⟩ := forest_bounds _ h.2.2 j hj
      refine ih c (fun q h1 h2 => hg q (by omega) (by omega)) fun e => hc ?_
      rw [List.contains_iff_mem, ← e]; exact List.mem_map_of_mem hj
    rcases h.2.1 with ⟨ha, hs⟩ | ⟨hw, hl⟩ | ⟨hw, hl⟩ | ⟨n, _, hj, hl⟩
    · rw [hs]
      exact word_has hV hF ha (hN i h.1) fun ho => (hg i h.le (by omega) ho).2
    · obtain ⟨e, hk⟩ := isW_text hw
      obtain ⟨a, ea⟩ : ∃ a, (L.getD i noPt).subs = [a] := List.length_eq_one_iff.1 hl
      rw [tyT_eq xs its (by omega) (by omega), e, ea] at hty ⊢
      have h1 := hsub a (by rw [ea]; simp)
      have h2 := ty_not _ hty
      simp only [List.map_cons, List.map_nil, List.cons.injEq, and_true] at h2
      have h3 := h1.2 h2
      simp only [List.map_cons, List.map_nil, overI]
      refine ⟨?_, fun _ => ?_⟩
      · unfold In64; omega
      · omega
    · obtain ⟨e, hk⟩ := isW_text hw
      obtain ⟨a, b, c, ea⟩ : ∃ a b c, (L.getD i noPt).subs = [a, b, c] := len_three hl
      rw [tyT_eq xs its (by omega) (by omega), e, ea] at hty ⊢
      simp only [List.map_cons, List.map_nil] at hty ⊢
      obtain ⟨h1, h2, h3⟩ := ty_if hty
      rw [h3]
      simp only [overI]
      split
      · exact hsub b (by rw [ea]; simp)
      · rw [h2]; exact hsub c (by rw [ea]; simp)
    · obtain ⟨e, hk⟩ := joins_text hj
      obtain ⟨a, b, ea⟩ : ∃ a b, (L.getD i noPt).subs = [a, b] := len_two hl
      rw [tyT_eq xs its (by omega) (by omega), ea]
      simp only [List.map_cons, List.map_nil, overI]
      exact two_has _ _ fun h => ty_plus _ h _
end Go.Proofs.YtfkdailfcmnjlaaGreatDoor

namespace Go.Proofs.YtfkdailfcmnjlaaGreatDoor
open Go Go.RowKit
set_option maxRecDepth 100000
attribute [local go_sem ↓] Go.wp_at_zero Go.wp_at_succ

/-- A list of users with a number each, at a slice. -/
def PairsAt (v : Value) (ls : List (List UInt8 × Int)) (w : World) : Prop :=
  ls.length ≤ maxLen ∧ ∃ a cap, v = .slice a ls.length cap ∧ ∀ i, i < ls.length → ∃ b o, a = some ⟨b, o, none⟩ ∧ w.cell? ⟨b, o + i * 2, none⟩ = some (S (ls.getD i ([], 0)).1) ∧ w.cell? ⟨b, o + i * 2 + 1, none⟩ = some (.int .i64 (ls.getD i ([], 0)).2) ∧ In64 (ls.getD i ([], 0)).2
theorem PairsAt.below {v : Value} {ls : List (List UInt8 × Int)} {w w' : World} (h : PairsAt v ls w) (hb : Below w.heap.size w w') : PairsAt v ls w' := by
  obtain ⟨h0, a, cap, h1, h2⟩ := h
  refine ⟨h0, a, cap, h1, fun i hi => ?_⟩
  obtain ⟨b, o, e, c0, c1, hn⟩ := h2 i hi
  refine ⟨b, o, e, ?_, ?_, hn⟩
  · rw [hb.cell (p := ⟨b, o + i * 2, none⟩) (World.block_lt_of_cell? w _ c0)]; exact c0
  · rw [hb.cell (p := ⟨b, o + i * 2 + 1, none⟩) (World.block_lt_of_cell? w _ c1)]; exact c1
/-- The first entry of a user counts. -/
def firstI (df : Int) (ls : List (List UInt8 × Int)) (u : List UInt8) : Int := match ls with
  | [] => df
  | x :: r => if x.1 == u then x.2 else firstI df r u
theorem first_step (df : Int) (ls : List (List UInt8 × Int)) (u : List UInt8) (i : Nat) (h : i < ls.length) : firstI df (ls.drop i) u = if (ls.getD i ([], 0)).1 == u then (ls.getD i ([], 0)).2 else firstI df (ls.drop (i + 1)) u := by
  rw [List.drop_eq_getElem_cons h, firstI, List.getD_eq_getElem?_getD, List.getElem?_eq_getElem h]; rfl

/-- What a user is to the room. -/
def firstK (ls : List (List UInt8 × Int)) (u : List UInt8) : Int := match ls with
  | [] => 0
  | x :: r => if x.1 == u then knownI x.2 else firstK r u
theorem firstK_step (ls : List (List UInt8 × Int)) (u : List UInt8) (i : Nat) (h : i < ls.length) : firstK (ls.drop i) u = if (ls.getD i ([], 0)).1 == u then knownI (ls.getD i ([], 0)).2 else firstK (ls.drop (i + 1)) u := by
  rw [List.drop_eq_getElem_cons h, firstK, List.getD_eq_getElem?_getD, List.getElem?_eq_getElem h]; rfl

end Go.Proofs.YtfkdailfcmnjlaaGreatDoor

namespace Go.Proofs.YtfkdailfcmnjlaaGreatDoor
open Go Go.RowKit
set_option maxRecDepth 100000
attribute [local go_sem ↓] Go.wp_at_zero Go.wp_at_succ

set_option maxHeartbeats 4000000 in
theorem plevel_any {lv mv : Value} {df : Int} {op : Bool} {ls : List (List UInt8 × Int)} (u : List UInt8) (w : World) (h : PairsAt lv ls w) :
    Calls Tryz.prog 79 #[.agg #[lv, .int .i64 df, mv, .bool op], S u] w fun e w' => e = .returned (.int .i64 (firstI df ls u)) ∧ Below w.heap.size w w' := by
  obtain ⟨hm, a, cap, rfl, hc⟩ := h
  unfold maxLen at hm
  have hb := (Below.refl w.heap.size w).alloc (Nat.le_refl _) (.cells #[.slice a ls.length cap, .int .i64 df, mv, .bool op] 50)
  have hx : (w.alloc (.cells #[.slice a ls.length cap, .int .i64 df, mv, .bool op] 50)).heap[w.heap.size]? = some (.cells #[.slice a ls.length cap, .int .i64 df, mv, .bool op] 50 (0, 0)) := heap_alloc_new w _
  have H0 : Hid _ := And.intro hb hx
  have HC : Hid _ := hc
  clear hb hx hc
  go_enter Tryz.func79, Tryz.ntmps79
  go_wp2_with fail
  obtain ⟨hb0, hx0⟩ := H0.out
  clear H0
  generalize w.alloc (.cells #[.slice a ls.length cap, .int .i64 df, mv, .bool op] 50) = wz at *
  go_loopw [10] (fun i wr => ∃ j, j ≤ ls.length ∧ i = .int .i64 j ∧ Hid (firstI df ls u = firstI df (ls.drop j) u) ∧ Below w.heap.size w wr ∧ wr.heap[w.heap.size]? = some (.cells #[.slice a ls.length cap, .int .i64 df, mv, .bool op] 50 (0, 0))) (fun i _ => ls.length - (intOf i).toNat)
  case atStart => exact ⟨0, Nat.zero_le _, rfl, rfl, hb0, hx0⟩
  case round =>
    obtain ⟨j, hj, rfl, HV, hbw, hxw⟩ := hrel
    have q1 := cell_of_row wr w.heap.size 1 _ _ _ hxw
    simp only [List.getElem?_toArray, List.getElem?_cons_zero, List.getElem?_cons_succ] at q1
    clear hb0 hx0
    by_cases hlt : j < ls.length
    · obtain ⟨b, o, rfl, c0, c1, hn⟩ := HC.out j hlt
      have HS : Hid _ := first_step df ls u j hlt
      have c0' : wr.cell? ⟨b, o + j * 2, none⟩ = some (S (ls.getD j ([], 0)).1) := by rw [hbw.cell (p := ⟨b, o + j * 2, none⟩) (World.block_lt_of_cell? w _ c0)]; exact c0
      have c1' : wr.cell? ⟨b, o + j * 2 + 1, none⟩ = some (.int .i64 (ls.getD j ([], 0)).2) := by rw [hbw.cell (p := ⟨b, o + j * 2 + 1, none⟩) (World.block_lt_of_cell? w _ c1)]; exact c1
      have lb := World.block_lt_of_cell? wr _ c0'
      simp only at lb
      have b0 : (0 : Int) ≤ (j : Int) := by omega
      have b1 : (j : Int) < (ls.length : Int) := by omega
      have ne1 : wr.heap.size ≠ b := by omega
      clear c0 c1
      generalize ls.getD j ([], 0) = x at *
      have hbA : Hid (Below w.heap.size w (wr.alloc (.cells #[S x.1, .int .i64 x.2] 108))) := hbw.alloc hbw.size _
      have hxA : Hid ((wr.alloc (.cells #[S x.1, .int .i64 x.2] 108)).heap[w.heap.size]? = some (.cells #[.slice (some ⟨b, o, none⟩) ls.length cap, .int .i64 df, mv, .bool op] 50 (0, 0))) := by show _ = _; rw [Below.heap_alloc _ _ _ (lt_of_get hxw)]; exact hxw
      clear hbw hxw
      cases hx : (x.1 == u) with
      | true =>
        have HS2 : Hid (firstI df ls u = x.2) := by show _ = _; rw [HV.out, HS.out, if_pos hx]
        clear HS HV
        go_wp2_with fail
        go_ret
        exact ⟨by rw [HS2.out]; rfl, hbA.out⟩
      | false =>
        have HS2 : Hid (firstI df ls u = firstI df (ls.drop (j + 1)) u) := by show _ = _; rw [HV.out, HS.out, if_neg (by rw [hx]; simp)]
        clear HS HV
        go_wp2_with fail
        go_roundw
        case rel => exact ⟨j + 1, by omega, by simp, HS2.out, hbA.out, hxA.out⟩
        case measure => simp [intOf]; omega
    · have hje : j = ls.length := by omega
      subst hje
      have HE : Hid (firstI df ls u = df) := by show _ = _; rw [HV.out, List.drop_length]; rfl
      have HB : Hid _ := hbw
      clear HV hbw
      go_wp2_with fail
      go_ret
      exact ⟨by rw [HE.out]; rfl, HB.out⟩

set_option maxHeartbeats 4000000 in
theorem pstanding_any {lv mv : Value} {df : Int} {op : Bool} {ls : List (List UInt8 × Int)} (u : List UInt8) (w : World) (h : PairsAt mv ls w) :
    Calls Tryz.prog 80 #[.agg #[lv, .int .i64 df, mv, .bool op], S u] w fun e w' => e = .returned (.int .i64 (firstK ls u)) ∧ Below w.heap.size w w' := by
  obtain ⟨hm, a, cap, rfl, hc⟩ := h
  unfold maxLen at hm
  have hb := (Below.refl w.heap.size w).alloc (Nat.le_refl _) (.cells #[lv, .int .i64 df, .slice a ls.length cap, .bool op] 50)
  have hx : (w.alloc (.cells #[lv, .int .i64 df, .slice a ls.length cap, .bool op] 50)).heap[w.heap.size]? = some (.cells #[lv, .int .i64 df, .slice a ls.length cap, .bool op] 50 (0, 0)) := heap_alloc_new w _
  have H0 : Hid _ := And.intro hb hx
  have HC : Hid _ := hc
  clear hb hx hc
  go_enter Tryz.func80, Tryz.ntmps80
  go_wp2_with fail
  obtain ⟨hb0, hx0⟩ := H0.out
  clear H0
  generalize w.alloc (.cells #[lv, .int .i64 df, .slice a ls.length cap, .bool op] 50) = wz at *
  go_loopw [10] (fun i wr => ∃ j, j ≤ ls.length ∧ i = .int .i64 j ∧ Hid (firstK ls u = firstK (ls.drop j) u) ∧ Below w.heap.size w wr ∧ wr.heap[w.heap.size]? = some (.cells #[lv, .int .i64 df, .slice a ls.length cap, .bool op] 50 (0, 0))) (fun i _ => ls.length - (intOf i).toNat)
  case atStart => exact ⟨0, Nat.zero_le _, rfl, rfl, hb0, hx0⟩
  case round =>
    obtain ⟨j, hj, rfl, HV, hbw, hxw⟩ := hrel
    have q1 := cell_of_row wr w.heap.size 1 _ _ _ hxw
    simp only [List.getElem?_toArray, List.getElem?_cons_zero, List.getElem?_cons_succ] at q1
    clear hb0 hx0
    by_cases hlt : j < ls.length
    · obtain ⟨b, o, rfl, c0, c1, hn⟩ := HC.out j hlt
      have HS : Hid _ := firstK_step ls u j hlt
      have c0' : wr.cell? ⟨b, o + j * 2, none⟩ = some (S (ls.getD j ([], 0)).1) := by rw [hbw.cell (p := ⟨b, o + j * 2, none⟩) (World.block_lt_of_cell? w _ c0)]; exact c0
      have c1' : wr.cell? ⟨b, o + j * 2 + 1, none⟩ = some (.int .i64 (ls.getD j ([], 0)).2) := by rw [hbw.cell (p := ⟨b, o + j * 2 + 1, none⟩) (World.block_lt_of_cell? w _ c1)]; exact c1
      have lb := World.block_lt_of_cell? wr _ c0'
      simp only at lb
      have b0 : (0 : Int) ≤ (j : Int) := by omega
      have b1 : (j : Int) < (ls.length : Int) := by omega
      have ne1 : wr.heap.size ≠ b := by omega
      clear c0 c1
      generalize ls.getD j ([], 0) = x at *
      have hbA : Hid (Below w.heap.size w (wr.alloc (.cells #[S x.1, .int .i64 x.2] 110))) := hbw.alloc hbw.size _
      have hxA : Hid ((wr.alloc (.cells #[S x.1, .int .i64 x.2] 110)).heap[w.heap.size]? = some (.cells #[lv, .int .i64 df, .slice (some ⟨b, o, none⟩) ls.length cap, .bool op] 50 (0, 0))) := by show _ = _; rw [Below.heap_alloc _ _ _ (lt_of_get hxw)]; exact hxw
      clear hbw hxw
      cases hx : (x.1 == u) with
      | true =>
        have HS2 : Hid (firstK ls u = knownI x.2) := by show _ = _; rw [HV.out, HS.out, if_pos hx]
        have WK := fun W => pmember_any x.2 W
        generalize knownI x.2 = kx at *
        clear HS HV
        go_wp2_with fail
        refine (WK _).mono ?_
        rintro e w5 ⟨rfl, rfl⟩
        clear WK
        go_wp2_with fail
        go_ret
        exact ⟨by rw [HS2.out]; rfl, hbA.out⟩
      | false =>
        have HS2 : Hid (firstK ls u = firstK (ls.drop (j + 1)) u) := by show _ = _; rw [HV.out, HS.out, if_neg (by rw [hx]; simp)]
        clear HS HV
        go_wp2_with fail
        go_roundw
        case rel => exact ⟨j + 1, by omega, by simp, HS2.out, hbA.out, hxA.out⟩
        case measure => simp [intOf]; omega
    · have hje : j = ls.length := by omega
      subst hje
      have HE : Hid (firstK ls u = 0) := by show _ = _; rw [HV.out, List.drop_length]; rfl
      have HB : Hid _ := hbw
      clear HV hbw
      go_wp2_with fail
      go_ret
      exact ⟨by rw [HE.out]; rfl, HB.out⟩
end Go.Proofs.YtfkdailfcmnjlaaGreatDoor

namespace Go.Proofs.YtfkdailfcmnjlaaGreatDoor
open Go Go.RowKit
set_option maxRecDepth 100000
attribute [local go_sem ↓] Go.wp_at_zero Go.wp_at_succ

theorem idx_le (l : List (List UInt8)) (s : List UInt8) : idx l s < l.length ∨ l = [] := by
  induction l with
  | nil => exact .inr rfl
  | cons x r ih =>
    left; unfold idx
    rcases ih with ih | ih
    · simp only [List.length_cons]
      split
      · omega
      · split <;> omega
    · subst ih; split <;> simp [idx]
theorem kind_le (t : Tok) : kindOf t ≤ 100 := by
  have h : idx spell t.text < 36 := by
    rcases idx_le spell t.text with h | h
    · exact h
    · simp [spell] at h
  unfold kindOf; split; omega; split; omega; split; omega; omega

/-- What reading a condition leaves. -/
def LeftC (rb gl cl : Nat) (ts : List Tok) (s : Q) (w : World) (r : Rd) (e : Ending) (w' : World) : Prop :=
  ∃ b, e = .returned (.pointer (some ⟨b, 0, none⟩)) ∧ PF rb w w' ∧ ((r.ok = true ∧ RR rb gl cl ts { s with i := r.i } w' ∧ CondAt r.L rb w' r.top b) ∨ (r.ok = false ∧ RR rb gl cl ts (failQ ts { s with i := r.i }) w'))
/-- What it leaves where it had failed. -/
def LeftE (rb gl cl : Nat) (ts : List Tok) (s : Q) (w : World) (e : Ending) (w' : World) : Prop :=
  ∃ b, e = .returned (.pointer (some ⟨b, 0, none⟩)) ∧ PF rb w w' ∧ RR rb gl cl ts s w'

theorem leaf_at (L : List Pt) (w : World) (t : Tok) (b : Nat) {lo : Nat} (hlo : lo ≤ b) (h : w.heap[b]? = some (cdObj t (.slice none 0 0) 0)) : CondAt (L ++ [⟨t, []⟩]) lo w L.length b := by
  have e : (L ++ [(⟨t, []⟩ : Pt)]).getD L.length noPt = ⟨t, []⟩ := by simp [List.getD_eq_getElem?_getD]
  exact .mk L.length b (.slice none 0 0) (fun _ => 0) (by simp) hlo (by rw [e]; exact h) (by rw [e]; exact .inl ⟨rfl, rfl⟩) (by rw [e]; intro j hj; simp at hj) (by rw [e]; intro j hj; simp at hj)

set_option maxHeartbeats 2000000 in
theorem single_yes {rb gl cl : Nat} {ts : List Tok} {s : Q} {w : World} (h : RR rb gl cl ts s w) (ht : TokW (tokAt ts s.i)) (ha : alone (tokAt ts s.i) = true) (L : List Pt) :
    Calls Tryz.prog 286 #[.pointer (some ⟨rb, 0, none⟩)] w (LeftC rb gl cl ts s w ⟨true, s.i + 1, L ++ [⟨tokAt ts s.i, []⟩], L.length⟩) := by
  rw [alone_iff ht] at ha
  have hk0 : kindOf (tokAt ts s.i) ≠ 0 := fun e => by rw [e] at ha; exact absurd ha (by decide)
  have hmore := h.more hk0
  have HK := kind_any h
  have HS := standsAlone_any (kindOf (tokAt ts s.i)) w.drew (kind_le _)
  rw [ha] at HS
  have HT := take_any h.drew hmore
  unfold wordV at HT
  have hF : PF rb w w.drew := (PF.refl rb w).drew
  have HF : Hid _ := hF
  clear hF h ht ha hk0
  go_enter Tryz.func286, Tryz.ntmps286
  go_wp2_with fail
  refine HK.mono ?_
  rintro e w' ⟨rfl, rfl⟩
  go_wp2_with fail
  refine HS.mono ?_
  rintro e w' ⟨rfl, rfl⟩
  go_wp2_with fail
  refine HT.mono ?_
  rintro e w3 ⟨rfl, h3, F3⟩
  have HF3 : Hid _ := HF.out.trans F3
  have H3 : Hid _ := h3
  clear HK HS HT HF F3 h3
  go_wp2_with fail
  go_ret
  refine ⟨w3.heap.size, rfl, HF3.out.alloc _, .inl ⟨rfl, H3.out.alloc _, ?_⟩⟩
  exact leaf_at L _ _ _ (Nat.le_of_lt H3.out.rlt) (heap_alloc_new w3 _)

set_option maxHeartbeats 2000000 in
theorem single_fail {rb gl cl : Nat} {ts : List Tok} {s : Q} {w : World} (h : RR rb gl cl ts s w) (ha : standsK (kindOf (tokAt ts s.i)) = false) :
    Calls Tryz.prog 286 #[.pointer (some ⟨rb, 0, none⟩)] w fun e w' => ∃ b, e = .returned (.pointer (some ⟨b, 0, none⟩)) ∧ PF rb w w' ∧ RR rb gl cl ts (failQ ts s) w' := by
  have HK := kind_any h
  have HS := standsAlone_any (kindOf (tokAt ts s.i)) w.drew (kind_le _)
  rw [ha] at HS
  have HT := fail_any h.drew
  have hF : PF rb w w.drew := (PF.refl rb w).drew
  have HF : Hid _ := hF
  clear hF h ha
  go_enter Tryz.func286, Tryz.ntmps286
  go_wp2_with fail
  refine HK.mono ?_
  rintro e w' ⟨rfl, rfl⟩
  go_wp2_with fail
  refine HS.mono ?_
  rintro e w' ⟨rfl, rfl⟩
  go_wp2_with fail
  refine HT.mono ?_
  rintro e w3 ⟨rfl, h3, F3⟩
  have HF3 : Hid _ := HF.out.trans F3
  have H3 : Hid _ := h3
  clear HK HS HT HF F3 h3
  go_wp2_with fail
  go_ret
  exact ⟨w3.heap.size, rfl, HF3.out.alloc _, H3.out.alloc _⟩
theorem single_no {rb gl cl : Nat} {ts : List Tok} {s : Q} {w : World} (h : RR rb gl cl ts s w) (ht : TokW (tokAt ts s.i)) (ha : alone (tokAt ts s.i) = false) :
    Calls Tryz.prog 286 #[.pointer (some ⟨rb, 0, none⟩)] w (LeftC rb gl cl ts s w ⟨false, s.i, [], 0⟩) := by
  rw [alone_iff ht] at ha
  refine (single_fail h ha).mono ?_
  rintro e w' ⟨b, h1, h2, h3⟩
  exact ⟨b, h1, h2, .inr ⟨rfl, h3⟩⟩
theorem failQ_end {ts : List Tok} {s : Q} (hb : s.bad = true) (hi : s.i = ts.length - 1) : failQ ts s = s := by
  unfold failQ; rw [hb, if_pos rfl, ← hi]; cases s; simp at hb; rw [hb]
theorem single_end {rb gl cl : Nat} {ts : List Tok} {s : Q} {w : World} (h : RR rb gl cl ts s w) (hb : s.bad = true) (hi : s.i = ts.length - 1) :
    Calls Tryz.prog 286 #[.pointer (some ⟨rb, 0, none⟩)] w (LeftE rb gl cl ts s w) := by
  refine (single_fail h (by rw [hi, h.fin]; decide)).mono ?_
  rintro e w' ⟨b, h1, h2, h3⟩
  exact ⟨b, h1, h2, by rw [failQ_end hb hi] at h3; exact h3⟩
end Go.Proofs.YtfkdailfcmnjlaaGreatDoor

namespace Go.Proofs.YtfkdailfcmnjlaaGreatDoor
open Go Go.RowKit
set_option maxRecDepth 100000
attribute [local go_sem ↓] Go.wp_at_zero Go.wp_at_succ

/-- A method value of the reader's. -/
def mv (n rb : Nat) : Value := .func (.func n) #[.pointer (some ⟨rb, 0, none⟩)] #[]
/-- A function that can be called. -/
def Ent (n : Nat) : Prop := ∀ (args : Array Value) (w : World), (callFunc n args).run Tryz.prog w = .ok (.enter n args) w

set_option maxHeartbeats 2000000 in
theorem fork_yes {rb gl cl : Nat} {ts : List Tok} {s : Q} {w : World} (h : RR rb gl cl ts s w) (k n m : Nat) (hk : kindOf (tokAt ts s.i) = k) (hn : Ent n) (R : Nat → World → Prop)
    (HC : Calls Tryz.prog n #[.pointer (some ⟨rb, 0, none⟩)] w.drew fun e w' => ∃ b, e = .returned (.pointer (some ⟨b, 0, none⟩)) ∧ R b w') :
    Calls Tryz.prog 213 #[.pointer (some ⟨rb, 0, none⟩), .int .i64 k, mv n rb, mv m rb] w fun e w' => ∃ b, e = .returned (.pointer (some ⟨b, 0, none⟩)) ∧ R b w' := by
  have HK := kind_any h
  rw [hk] at HK
  unfold mv
  unfold Ent at hn
  clear h hk
  go_enter Tryz.func213, Tryz.ntmps213
  go_wp2_with fail
  refine HK.mono ?_
  rintro e w' ⟨rfl, rfl⟩
  go_wp2_with fail
  refine HC.mono ?_
  rintro e w' ⟨b, rfl, hR⟩
  go_wp2_with fail
  go_ret
  exact ⟨b, rfl, hR⟩
set_option maxHeartbeats 2000000 in
theorem fork_no {rb gl cl : Nat} {ts : List Tok} {s : Q} {w : World} (h : RR rb gl cl ts s w) (k n m : Nat) (hk : kindOf (tokAt ts s.i) ≠ k) (hm : Ent m) (R : Nat → World → Prop)
    (HC : Calls Tryz.prog m #[.pointer (some ⟨rb, 0, none⟩)] w.drew fun e w' => ∃ b, e = .returned (.pointer (some ⟨b, 0, none⟩)) ∧ R b w') :
    Calls Tryz.prog 213 #[.pointer (some ⟨rb, 0, none⟩), .int .i64 k, mv n rb, mv m rb] w fun e w' => ∃ b, e = .returned (.pointer (some ⟨b, 0, none⟩)) ∧ R b w' := by
  have HK := kind_any h
  generalize kindOf (tokAt ts s.i) = kd at HK hk
  have hk' : ¬ ((kd : Int) = (k : Int)) := by omega
  have hk2 : ((kd : Int) == (k : Int)) = false := by simpa using hk'
  unfold mv
  unfold Ent at hm
  clear h hk
  go_enter Tryz.func213, Tryz.ntmps213
  go_wp2_with fail
  refine HK.mono ?_
  rintro e w' ⟨rfl, rfl⟩
  go_wp2_with fail
  refine HC.mono ?_
  rintro e w' ⟨b, rfl, hR⟩
  go_wp2_with fail
  go_ret
  exact ⟨b, rfl, hR⟩
end Go.Proofs.YtfkdailfcmnjlaaGreatDoor

namespace Go.Proofs.YtfkdailfcmnjlaaGreatDoor
open Go Go.RowKit
set_option maxRecDepth 100000
attribute [local go_sem ↓] Go.wp_at_zero Go.wp_at_succ

/-- The memory with one part more over two. -/
def joinW (w : World) (t : Tok) (b1 b2 : Nat) : World := (w.alloc (.cells #[.pointer (some ⟨b1, 0, none⟩), .pointer (some ⟨b2, 0, none⟩)] 161 (0, 0))).alloc (cdObj t (.slice (some ⟨w.heap.size, 0, none⟩) 2 2) 0)
set_option maxHeartbeats 2000000 in
theorem join_any {rb gl cl : Nat} {ts : List Tok} {s : Q} {w : World} (h : RR rb gl cl ts s w) (hi : s.i + 1 < ts.length) (n bl : Nat) (hn : Ent n) (R : Nat → World → Prop)
    (HC : ∀ w1, RR rb gl cl ts { s with i := s.i + 1 } w1 → PF rb w w1 → Calls Tryz.prog n #[.pointer (some ⟨rb, 0, none⟩)] w1 fun e w' => ∃ b, e = .returned (.pointer (some ⟨b, 0, none⟩)) ∧ PF rb w1 w' ∧ R b w') :
    Calls Tryz.prog 266 #[.pointer (some ⟨rb, 0, none⟩), .pointer (some ⟨bl, 0, none⟩), mv n rb] w fun e w' => ∃ b w3, e = .returned (.pointer (some ⟨w3.heap.size + 1, 0, none⟩)) ∧ R b w3 ∧ PF rb w w3 ∧ w' = joinW w3 (tokAt ts s.i) bl b := by
  have HJ : Hid (∀ w3 b, joinW w3 (tokAt ts s.i) bl b = (w3.alloc (.cells #[.pointer (some ⟨bl, 0, none⟩), .pointer (some ⟨b, 0, none⟩)] 161 (0, 0))).alloc (.cells #[.int .i64 (kindOf (tokAt ts s.i)), .int .i64 (tokAt ts s.i).pl, .int .i64 (nmOf (tokAt ts s.i)), S (ownOf (tokAt ts s.i)), .slice (some ⟨w3.heap.size, 0, none⟩) 2 2, .int .i64 0] 229 (0, 0))) := fun _ _ => rfl
  have HT := take_any h hi
  unfold wordV at HT
  unfold mv
  unfold Ent at hn
  go_enter Tryz.func266, Tryz.ntmps266
  go_wp2_with fail
  refine HT.mono ?_
  rintro e w1 ⟨rfl, h1, F1⟩
  clear HT
  generalize kindOf (tokAt ts s.i) = tk at *
  generalize (tokAt ts s.i).pl = tp at *
  generalize nmOf (tokAt ts s.i) = tm at *
  generalize ownOf (tokAt ts s.i) = tt at *
  have hlt1 := h1.rlt
  have h2 := (h1.alloc (wvObj tk tp tm tt)).drew
  have F2 := ((F1.alloc (wvObj tk tp tm tt)).drew)
  have hx2 : (w1.alloc (wvObj tk tp tm tt)).drew.heap[w1.heap.size]? = some (wvObj tk tp tm tt) := heap_alloc_new w1 _
  have HCD := HC _ h2 F2
  have e1 : w1.heap.size ≠ rb := by omega
  have hl2 : w1.heap.size < (w1.alloc (wvObj tk tp tm tt)).drew.heap.size := lt_of_get hx2
  have keepF : ∀ w', PF rb (w1.alloc (wvObj tk tp tm tt)).drew w' → (w'.cell? ⟨w1.heap.size, 0, none⟩ = some (.int .i64 tk) ∧ w'.cell? ⟨w1.heap.size, 1, none⟩ = some (.int .i64 tp) ∧ w'.cell? ⟨w1.heap.size, 2, none⟩ = some (.int .i64 tm) ∧ w'.cell? ⟨w1.heap.size, 3, none⟩ = some (S tt)) := fun w' hf =>
    (wv_cells (by rw [hf.block _ hl2 e1]; exact hx2)).1
  have KF : Hid _ := keepF
  have H2 : Hid _ := h2
  have HF2 : Hid _ := F2
  have hS := keepF _ (PF.refl _ _)
  clear HC h1 F1 h2 F2 hx2 keepF h
  unfold wvObj at HCD KF H2 HF2 hS hl2
  go_wp2_with fail
  obtain ⟨x0, x1, x2, x3⟩ := hS
  show Code.wp _ _ _ _ (w1.alloc (.cells #[.int .i64 tk, .int .i64 tp, .int .i64 tm, S tt] 160 (0, 0)))
  generalize hg : w1.alloc (.cells #[.int .i64 tk, .int .i64 tp, .int .i64 tm, S tt] 160 (0, 0)) = w2 at *
  generalize w1.heap.size = bx at *
  clear hg hlt1
  go_region_held3 (fun w' => w'.cell? ⟨bx, 0, none⟩ = some (.int .i64 tk) ∧ w'.cell? ⟨bx, 1, none⟩ = some (.int .i64 tp) ∧ w'.cell? ⟨bx, 2, none⟩ = some (.int .i64 tm) ∧ w'.cell? ⟨bx, 3, none⟩ = some (S tt)) (first | exact KF.out _ hF3 | go_keep) ((refine HCD.mono ?_; rintro e w3 ⟨b, rfl, hF3, hR⟩))
  rename_i hHeld
  clear hHeld
  go_wp2_with fail
  go_ret
  exact ⟨b, w3, rfl, hR, HF2.out.trans hF3, (HJ.out w3 b).symm⟩
end Go.Proofs.YtfkdailfcmnjlaaGreatDoor

namespace Go.Proofs.YtfkdailfcmnjlaaGreatDoor
open Go Go.RowKit
set_option maxRecDepth 100000

theorem CondAt.lt {L : List Pt} {lt : Nat} {w : World} {i b : Nat} (h : CondAt L lt w i b) : i < L.length := h.ind (fun i _ => i < L.length) fun _ _ _ _ hi _ _ _ _ _ _ => hi
theorem CondAt.grow {L : List Pt} {lt : Nat} {w w' : World} {i b : Nat} (h : CondAt L lt w i b) (hb : Below w.heap.size w w') : CondAt L lt w' i b :=
  h.keep fun k _ _ hk _ => hb.block k (lt_of_get hk)
theorem getD_lastP (L : List Pt) (p : Pt) : (L ++ [p]).getD L.length noPt = p := by simp [List.getD_eq_getElem?_getD]

/-- The memory with one part more over some. -/
def overW (w : World) (t : Tok) (bs : List Nat) : World := (w.alloc (.cells (bs.map fun b => Value.pointer (some ⟨b, 0, none⟩)).toArray 161 (0, 0))).alloc (cdObj t (.slice (some ⟨w.heap.size, 0, none⟩) bs.length bs.length) 0)
theorem over_below (w : World) (t : Tok) (bs : List Nat) : Below w.heap.size w (overW w t bs) :=
  ((Below.refl _ _).alloc (Nat.le_refl _) _).alloc (by simp) _
theorem joinW_over (w : World) (t : Tok) (b1 b2 : Nat) : joinW w t b1 b2 = overW w t [b1, b2] := rfl
theorem over_at {L : List Pt} {w : World} {t : Tok} {xs bs : List Nat} {lo : Nat} (hlo : lo < w.heap.size) (hl : xs.length = bs.length) (h0 : 0 < bs.length) (h : ∀ j, j < bs.length → CondAt L lo w (xs.getD j 0) (bs.getD j 0)) :
    CondAt (L ++ [⟨t, xs⟩]) lo (overW w t bs) L.length (w.heap.size + 1) := by
  have e := getD_lastP L ⟨t, xs⟩
  have hg : (overW w t bs).heap[w.heap.size]? = some (.cells (bs.map fun b => Value.pointer (some ⟨b, 0, none⟩)).toArray 161 (0, 0)) := by
    unfold overW
    rw [Below.heap_alloc _ _ _ (by simp)]; exact heap_alloc_new w _
  have hc : (overW w t bs).heap[w.heap.size + 1]? = some (cdObj t (.slice (some ⟨w.heap.size, 0, none⟩) bs.length bs.length) 0) := by
    have := heap_alloc_new (w.alloc (.cells (bs.map fun b => Value.pointer (some ⟨b, 0, none⟩)).toArray 161 (0, 0))) (cdObj t (.slice (some ⟨w.heap.size, 0, none⟩) bs.length bs.length) 0)
    simp only [World.size_alloc] at this
    exact this
  have hm : (bs.map fun b => Value.pointer (some ⟨b, 0, none⟩)) = (List.range bs.length).map fun j => Value.pointer (some ⟨bs.getD j 0, 0, none⟩) := by
    apply List.ext_getElem
    · simp
    · intro j h1 h2
      simp at h1
      simp [List.getD_eq_getElem?_getD, List.getElem?_eq_getElem h1]
  refine .mk L.length (w.heap.size + 1) (.slice (some ⟨w.heap.size, 0, none⟩) bs.length bs.length) (fun j => bs.getD j 0) (by simp) (by omega) (by rw [e]; exact hc) ?_ ?_ ?_
  · rw [e]
    simp only [hl]
    refine .inr ⟨h0, w.heap.size, rfl, ?_⟩
    rw [hg, hm]
  · rw [e]; intro j hj
    simp only [hl] at hj
    exact (h j hj).lt
  · rw [e]; intro j hj
    simp only [hl] at hj
    exact ((h j hj).grow (over_below w t bs)).put _
end Go.Proofs.YtfkdailfcmnjlaaGreatDoor

namespace Go.Proofs.YtfkdailfcmnjlaaGreatDoor
open Go Go.RowKit
set_option maxRecDepth 100000
attribute [local go_sem ↓] Go.wp_at_zero Go.wp_at_succ

theorem P_more {g tag : Nat} {ts : List Tok} {i x : Nat} {L : List Pt} {r : Rd} (h : P g tag ts i L x = some r) (ok : r.ok = true) (ht : tag ≤ 6) : ∃ new, r.L = L ++ new :=
  (P_kept g tag ts i L x L.length r h ok (Nat.le_refl _) (fun k h1 h2 => by omega) (by omega) (.inl ht)).more
/-- A form reads as the plain reader does. -/
def FormOK (f fn lv rb gl cl : Nat) (ts : List Tok) : Prop := ∀ g, g ≤ f → ∀ (s1 : Q) (w1 : World) (L : List Pt) (r1 : Rd), RR rb gl cl ts s1 w1 → s1.bad = false → P g lv ts s1.i L 0 = some r1 → Calls Tryz.prog fn #[.pointer (some ⟨rb, 0, none⟩)] w1 (LeftC rb gl cl ts s1 w1 r1)
/-- The kinds of joining words, as a variadic call lays them. -/
def ksObj (ks : List Nat) : Obj := .cells (ks.map fun (k : Nat) => Value.int .i64 k).toArray 158 (0, 0)
theorem ks_cells {w : World} {ks : List Nat} {jb : Nat} (h : w.heap[jb]? = some (ksObj ks)) : ∀ j, j < ks.length → w.cell? ⟨jb, j, none⟩ = some (.int .i64 (ks.getD j 0)) := fun j hj => by
  rw [cell_of_row w jb j _ _ _ h]
  simp [List.getD_eq_getElem?_getD, List.getElem?_eq_getElem hj]

/-- Where the loop stands. -/
def AtC (f rb gl cl : Nat) (ts : List Tok) (s : Q) (w : World) (n : Nat) (r : Rd) (v : Value) (wr : World) : Prop :=
  ∃ s' b, v = .pointer (some ⟨b, 0, none⟩) ∧ RR rb gl cl ts s' wr ∧ PF rb w wr ∧ ((s' = { s with i := s'.i } ∧ ∃ g L x, g ≤ f ∧ P g (10 + n) ts s'.i L x = some r ∧ CondAt L rb wr x b) ∨ (r.ok = false ∧ s' = failQ ts { s with i := r.i }))
def rdI2 (rb : Nat) (w : World) : Nat := (intOf ((w.cell? ⟨rb, 1, none⟩).getD (.int .i64 0))).toNat

theorem rdI2_eq {rb gl cl : Nat} {ts : List Tok} {s : Q} {w : World} (h : RR rb gl cl ts s w) : rdI2 rb w = s.i := by
  unfold rdI2; rw [h.cells.1.2.1]; simp [intOf]
theorem tokAt_mem {ts : List Tok} {i : Nat} (h : i < ts.length) : tokAt ts i ∈ ts := by
  unfold tokAt; rw [List.getD_eq_getElem?_getD, List.getElem?_eq_getElem h]; exact List.getElem_mem h
theorem more_at {L L' : List Pt} {lo : Nat} {w : World} {x b : Nat} (h : CondAt L lo w x b) (hm : ∃ new, L' = L ++ new) : CondAt L' lo w x b := by
  obtain ⟨new, rfl⟩ := hm
  exact h.more (by simp) (fun k hk => by simp [List.getD_eq_getElem?_getD, List.getElem?_append_left hk])
/-- What stands behind a joining word and a form. -/
def AfterJ (rb gl cl : Nat) (ts : List Tok) (s' : Q) (bb : Rd) (b2 : Nat) (w3 : World) : Prop := (bb.ok = true ∧ RR rb gl cl ts { s' with i := bb.i } w3 ∧ CondAt bb.L rb w3 bb.top b2) ∨ (bb.ok = false ∧ RR rb gl cl ts (failQ ts { s' with i := bb.i }) w3)

set_option maxHeartbeats 2000000 in
theorem chain_any {f rb gl cl : Nat} {ts : List Tok} {s : Q} {w : World} (h : RR rb gl cl ts s w) (hW : ∀ t ∈ ts, TokW t) (hgood : s.bad = false) (n fn : Nat) (hch : n = 0 ∨ n = 1 ∨ n = 4) (hf : FormOK f fn (n + 1) rb gl cl ts) (hfn : Ent fn) (jb : Nat)
    (hj : w.heap[jb]? = some (ksObj (joinK n))) (L : List Pt) (r : Rd) (hP : P (f + 1) n ts s.i L 0 = some r) :
    Calls Tryz.prog 246 #[.pointer (some ⟨rb, 0, none⟩), mv fn rb, .slice (some ⟨jb, 0, none⟩) (joinK n).length (joinK n).length] w (LeftC rb gl cl ts s w r) := by
  obtain ⟨a, hPa, hra⟩ := chain_split (by unfold isChain; omega) hP
  have HF1 := hf f (Nat.le_refl _) s w L a h hgood hPa
  have hj0 : jb ≠ rb := fun e => by rw [e, h.rd] at hj; simp [rdObj, ksObj] at hj
  have hjl := lt_of_get hj
  have H1 : Hid _ := hra
  have hfn' := hfn
  unfold mv
  unfold Ent at hfn'
  clear hP hPa hra
  go_enter Tryz.func246, Tryz.ntmps246
  go_wp2_with fail
  refine HF1.mono ?_
  rintro e w1 ⟨b1, rfl, F1, hL⟩
  have hstart : AtC f rb gl cl ts s w n r (.pointer (some ⟨b1, 0, none⟩)) w1 := by
    rcases H1.out with ⟨ok, hp⟩ | ⟨ok, rfl⟩
    · rcases hL with ⟨_, hr, hc⟩ | ⟨hh, _⟩
      · exact ⟨_, b1, rfl, hr, F1, .inl ⟨rfl, f, a.L, a.top, Nat.le_refl _, hp, hc⟩⟩
      · rw [ok] at hh; simp at hh
    · rcases hL with ⟨hh, _⟩ | ⟨_, hr⟩
      · rw [ok] at hh; simp at hh
      · exact ⟨_, b1, rfl, hr, F1, .inr ⟨ok, rfl⟩⟩
  have HST : Hid _ := hstart
  clear hL HF1 F1 H1 hstart
  go_wp2_with fail
  have HJ : Hid _ := hj
  have HG : Hid _ := hgood
  clear hj h hgood
  go_loopw [7] (fun v wr => AtC f rb gl cl ts s w n r v wr) (fun _ wr => ts.length - rdI2 rb wr)
  case atStart => exact HST.out
  case round =>
    obtain ⟨s', b, rfl, hr, Fr', hst⟩ := hrel
    have ht := hW _ (tokAt_mem hr.lt)
    have hjr : wr.drew.heap[jb]? = some (ksObj (joinK n)) := by show wr.heap[jb]? = _; rw [Fr'.block _ hjl hj0]; exact HJ.out
    have hn4 : n ≤ 4 := by omega
    have hkl : (joinK n).length ≤ 100 := by rcases hch with rfl | rfl | rfl <;> decide
    have HK := kind_any hr
    have HCn := contains_any (joinK n) (kindOf (tokAt ts s'.i)) jb wr.drew hkl (ks_cells hjr)
    have hji := joins_iff hn4 ht
    cases hct : (joinK n).contains (kindOf (tokAt ts s'.i)) with
    | false =>
      rw [hct] at HCn hji
      have HL : Hid (LeftC rb gl cl ts s w r (.returned (.pointer (some ⟨b, 0, none⟩))) wr.drew) := by
        refine ⟨b, rfl, Fr'.drew, ?_⟩
        rcases hst with ⟨hs, g, L', x, hg, hp, hc⟩ | ⟨ok, hs⟩
        · cases g with
          | zero => rw [P] at hp; simp at hp
          | succ g =>
            have := loop_no (by unfold isChain; omega) hp hji
            subst this
            exact .inl ⟨rfl, by rw [← hs]; exact hr.drew, hc.keep fun k _ _ _ _ => rfl⟩
        · exact .inr ⟨ok, by rw [← hs]; exact hr.drew⟩
      clear hst hct hji ht hjr hr Fr'
      go_wp2_with fail
      refine HK.mono ?_
      rintro e w' ⟨rfl, rfl⟩
      go_wp2_with fail
      refine HCn.mono ?_
      rintro e w' ⟨rfl, rfl⟩
      go_wp2_with fail
      go_ret
      exact HL.out
    | true =>
      rw [hct] at HCn hji
      have hk0 : kindOf (tokAt ts s'.i) ≠ 0 := fun e => by
        rw [e, List.contains_iff_mem] at hct
        have := joinK_small n hn4 0 hct; omega
      have hmore := hr.more hk0
      rcases hst with ⟨hs, g, L', x, hg, hp, hc⟩ | ⟨ok, hs⟩
      · cases g with
        | zero => rw [P] at hp; simp at hp
        | succ g =>
          obtain ⟨bb, hPb, hcase⟩ := loop_yes (by unfold isChain; omega) hp hji
          have hsb : s'.bad = false := by rw [hs]; exact HG.out
          have HJn := join_any hr.drew hmore fn b hfn (AfterJ rb gl cl ts s' bb) (fun w1 h1 F1 => by
            refine (hf g (by omega) { s' with i := s'.i + 1 } w1 L' bb h1 hsb hPb).mono ?_
            rintro e w2 ⟨b2, h2, h3, h4⟩
            exact ⟨b2, h2, h3, h4⟩)
          have HH : Hid _ := hcase
          have HP : Hid _ := hPb
          have HS : Hid _ := hs
          have HCo : Hid _ := hc
          have HR : Hid _ := hr
          have HF : Hid _ := Fr'
          unfold mv at HJn
          clear hct hji ht hjr hr Fr' hcase hPb hs hc hp hsb hk0
          go_wp2_with fail
          refine HK.mono ?_
          rintro e w' ⟨rfl, rfl⟩
          go_wp2_with fail
          refine HCn.mono ?_
          rintro e w' ⟨rfl, rfl⟩
          go_wp2_with fail
          refine HJn.mono ?_
          rintro e w' ⟨b2, w3, rfl, hA, F3, rfl⟩
          clear HK HCn HJn
          have HA : Hid _ := hA
          have HF3 : Hid _ := F3
          clear hA F3
          go_wp2_with fail
          have hB := over_below w3 (tokAt ts s'.i) [b, b2]
          rw [← joinW_over] at hB
          have hF : PF rb w (joinW w3 (tokAt ts s'.i) b b2) := (HF.out.drew.trans HF3.out).trans (PF.of_below hB)
          rcases HA.out with ⟨ok, h3, hc3⟩ | ⟨ok, h3⟩
          · have h4 := h3.below hB
            have hkp := P_kept g (n + 1) ts (s'.i + 1) L' 0 L'.length bb HP.out ok (Nat.le_refl _) (fun k h1 h2 => by omega) (by omega) (.inl (by omega))
            have hfw := hkp.fwd
            refine ⟨?_, by rw [rdI2_eq h4, rdI2_eq HR.out]; simp only []; have := h4.lt; simp only [] at this; omega⟩
            rcases HH.out with ⟨no, _⟩ | ⟨_, ⟨h3', _⟩ | ⟨_, hp⟩⟩
            · rw [ok] at no; simp at no
            · omega
            · refine ⟨_, _, rfl, h4, hF, .inl ⟨by rw [HS.out], g, _, _, by omega, hp, ?_⟩⟩
              rw [joinW_over]
              refine over_at h3.rlt rfl (by simp) fun j hj => ?_
              have hcx := more_at ((HCo.out.pf HR.out (PF.refl rb wr).drew).pf HR.out.drew HF3.out) hkp.more
              match j, hj with
              | 0, _ => exact hcx
              | 1, _ => exact hc3
          · have h4 := h3.below hB
            refine ⟨?_, by rw [rdI2_eq h4, rdI2_eq HR.out]; simp only [failQ]; omega⟩
            rcases HH.out with ⟨_, rfl⟩ | ⟨yes, _⟩
            · exact ⟨_, _, rfl, h4, hF, .inr ⟨ok, by rw [HS.out]⟩⟩
            · rw [ok] at yes; simp at yes
      · exfalso
        apply hk0
        have : s'.i = ts.length - 1 := by rw [hs]; rfl
        rw [this]; exact hr.fin
end Go.Proofs.YtfkdailfcmnjlaaGreatDoor
