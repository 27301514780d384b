/-
  What the other instructions do tw what is known: by the table of effects. What an instruction does in memory is what the plain function says. Where an instruction goes on. What is known is brought tw the next places. Looking a code through: what stands between the rounds.
-/
import Derived.Test.YtfkdailfcmnjlaaGreatDoorCompiles01
import Derived.Test.YtfkdailfcmnjlaaGreatDoorCompiles02
import Derived.Test.YtfkdailfcmnjlaaGreatDoorCompiles04
import Derived.Test.YtfkdailfcmnjlaaGreatDoorCompiles05
import Derived.Test.YtfkdailfcmnjlaaGreatDoorCompiles06
import Derived.Test.YtfkdailfcmnjlaaGreatDoorCompiles07
import Derived.Test.YtfkdailfcmnjlaaGreatDoorCompiles08
import Derived.Test.YtfkdailfcmnjlaaGreatDoorCompiles09
import Derived.Test.YtfkdailfcmnjlaaGreatDoorCompiles10
import Derived.Test.YtfkdailfcmnjlaaGreatDoorCompiles11
import Derived.Test.YtfkdailfcmnjlaaGreatDoorCompiles12
import Derived.Test.YtfkdailfcmnjlaaGreatDoorCompiles13
import Derived.Test.YtfkdailfcmnjlaaGreatDoorCompiles14
import Derived.Test.YtfkdailfcmnjlaaGreatDoorCompiles15
import Derived.Test.YtfkdailfcmnjlaaGreatDoorCompiles16
import Derived.Test.YtfkdailfcmnjlaaGreatDoorCompiles17
import Derived.Test.YtfkdailfcmnjlaaGreatDoorCompiles18
import Derived.Test.YtfkdailfcmnjlaaGreatDoorCompiles19
import Derived.Test.YtfkdailfcmnjlaaGreatDoorCompiles20
import Derived.Test.YtfkdailfcmnjlaaGreatDoorCompiles21
import Derived.Test.YtfkdailfcmnjlaaGreatDoorCompiles22
import Derived.Test.YtfkdailfcmnjlaaGreatDoorCompiles23
import Derived.Test.YtfkdailfcmnjlaaGreatDoorCompiles24
import Derived.Test.YtfkdailfcmnjlaaGreatDoorCompiles28
import Derived.Test.YtfkdailfcmnjlaaGreatDoorCompiles29
import Derived.Test.YtfkdailfcmnjlaaGreatDoorCompiles30
import Derived.Test.YtfkdailfcmnjlaaGreatDoorCompiles31
import Derived.Test.YtfkdailfcmnjlaaGreatDoorCompiles32
import Derived.Test.YtfkdailfcmnjlaaGreatDoorCompiles34
import Derived.Test.YtfkdailfcmnjlaaGreatDoorCompiles35
import Derived.Test.YtfkdailfcmnjlaaGreatDoorCompiles37
import Derived.Test.YtfkdailfcmnjlaaGreatDoorCompiles38
import Derived.Test.YtfkdailfcmnjlaaGreatDoorLays
import Derived.Test.YtfkdailfcmnjlaaGreatDoorLays2
import Derived.WalkKit
import Derived.Deep.QuietTactic
import Derived.BigQuiet
import Derived.WalkSpells
import GoSem.Op.String
import Derived.Deep.AppendLies
import Derived.Deep.RegionHeld3
import Derived.Deep.DrawnRows
import Derived.Deep.RegionHeldLaw
import Derived.Deep.RegionLaw
import Derived.Lib.ParseIntBCases
import Derived.Deep.OwnRows
import Derived.Lib.LaidTab
import Derived.Lib.AppendIntMem
import Derived.Shelf.Strings.Builder1
import Derived.Laws.CopyOwn
import Derived.Deep.DeepCutAuto
import Derived.WalkSmall
import Derived.Lib.AppendZerosOnto
set_option linter.unusedVariables false
set_option linter.unusedSimpArgs false
namespace Go.Proofs.YtfkdailfcmnjlaaGreatDoor
open Go Go.RowKit
set_option maxRecDepth 100000
attribute [local go_sem ↓] Go.wp_at_zero Go.wp_at_succ

/-- The table of effects. -/
def effL : List Int := [0, 0, 0, 0, 0, 1, 0, 0, 2, 0, 0, 3, 0, 0, 0, 0, 0, 0, 0, 0, 0, 2, 1, 1, 2, 1, 1, 0, 0, 0, 2, 1, 2, 2, 1, 2, 1, 2, 2, 2, 2, 2, 2, 2, 2, 1, 2, 0, 0, 0, 0, 0, 0, 0, 0, 0, 0]
def Ef (w : World) : Prop := ∀ j, j < 57 → w.cell? ⟨1, j, none⟩ = some (.int .i64 (effL.getD j 0))
theorem Ef.pos {w : World} (h : Ef w) : 1 < w.heap.size := World.block_lt_of_cell? w _ (h 0 (by decide))
theorem Ef.below {w w' : World} (h : Ef w) {B : Nat} (hB : 1 < B) (hb : Below B w w') : Ef w' := fun k hk => by rw [hb.cell (p := ⟨1, k, none⟩) hB]; exact h k hk
theorem eff_takes : ∀ op, op < 19 → (effL.getD (op * 3) 0) = (((effL.getD (op * 3) 0).toNat : Nat) : Int) ∧ (effL.getD (op * 3) 0).toNat ≤ 2 := by decide
set_option maxHeartbeats 4000000 in
theorem changeO {w : World} {p : Nat} {vs vc : Value} {st c : List Int} (op : Nat) (n tw pl : Int) (hE : Ef w) (h : SetAt w p vs vc st c) (hl : st.length ≤ 4000) (ho : op < 19) (h4 : op ≠ 4) (h5 : op ≠ 5) (h6 : op ≠ 6) (h9 : op ≠ 9) :
    Calls Tryz.prog 188 #[insV op n tw pl, .pointer (some ⟨p, 0, none⟩)] w fun e w' => ChAns w p vs vc (onR (effL.getD (op * 3) 0).toNat (effL.getD (op * 3 + 1) 0) (effL.getD (op * 3 + 2) 0) st c) e w' := by
  obtain ⟨w1, hw1, H0⟩ : ∃ w1, w.alloc (.cells #[.int .i64 op, .int .i64 n, .int .i64 tw, .int .i64 pl] 247) = w1 ∧ ChStart w w1 p vs vc st c op n tw pl := ⟨_, rfl, ChStart.of h op n tw pl⟩
  unfold insV
  have H : Hid _ := H0
  obtain ⟨c0, _, _⟩ := H0.cells
  have hE1 : Ef w1 := by rw [← hw1]; exact hE.below hE.pos ((Below.refl _ w).alloc (Nat.le_refl _) _)
  have e0 := hE1 (op * 3) (by omega)
  have e1 := hE1 (op * 3 + 1) (by omega)
  have e2 := hE1 (op * 3 + 2) (by omega)
  obtain ⟨q1, q2⟩ := eff_takes op ho
  rw [q1] at e0
  have W1 := eon_any (effL.getD (op * 3) 0).toNat (effL.getD (op * 3 + 1) 0) (effL.getD (op * 3 + 2) 0) H0.set hl (by omega)
  have W2 := eon_any (effL.getD (op * 3) 0).toNat (effL.getD (op * 3 + 1) 0) (effL.getD (op * 3 + 2) 0) H0.set.drew hl (by omega)
  generalize (effL.getD (op * 3) 0).toNat = k at *
  generalize effL.getD (op * 3 + 1) 0 = t at *
  generalize effL.getD (op * 3 + 2) 0 = o at *
  have HW : Hid _ := hw1
  have b4 : ((op : Int) == 4) = false := by simp; omega
  have b5 : ((op : Int) == 5) = false := by simp; omega
  have b6 : ((op : Int) == 6) = false := by simp; omega
  have b9 : ((op : Int) == 9) = false := by simp; omega
  have hb : (0 : Int) ≤ (op : Int) ∧ (op : Int) < 19 := by omega
  clear h H0 hE hE1 q1 q2 h4 h5 h6 h9
  rw [← hw1] at e0 e1 e2 c0
  clear hw1
  generalize onR k t o st c = R at *
  go_enter Tryz.func188, Tryz.ntmps188
  go_wp2_with fail
  rw [HW.out]
  refine W1.mono ?_
  clear W1 W2 e0 e1 e2 c0
  cases R with
  | none =>
    rintro e w2 ⟨rfl, ho2⟩
    have HU : Hid _ := ho2
    clear ho2
    go_wp2
    go_ret
    exact ⟨rfl, H.out.only _ HU.out⟩
  | some x =>
    rintro e w2 ⟨rfl, ho2⟩
    have HU : Hid _ := ho2
    clear ho2
    go_wp2
    go_ret
    exact ⟨rfl, H.out.out _ _ _ HU.out⟩
/-- What an instruction does tw a stack and cells in memory. -/
def changeR (op n : Nat) (st c : List Int) : Option (List Int × List Int) :=
  if op = 4 then some (st ++ [fieldI n], c)
  else if op = 5 then (if st.getLast?.getD 0 = 0 then none else some (st.dropLast, learnL c n (st.getLast?.getD 0)))
  else if op = 6 then (if c.getD n 0 = 0 then none else some (st ++ [c.getD n 0], c))
  else if op = 9 then (if st.dropLast.getLast?.getD 0 = st.getLast?.getD 0 ∧ st.dropLast.getLast?.getD 0 ≠ 0 then some (st.dropLast.dropLast ++ [2], c) else none)
  else onR (effL.getD (op * 3) 0).toNat (effL.getD (op * 3 + 1) 0) (effL.getD (op * 3 + 2) 0) st c
theorem change_any {w : World} {p : Nat} {vs vc : Value} {st c : List Int} (op : Nat) (n tw pl : Int) (hE : Ef w) (h : SetAt w p vs vc st c) (hl : st.length ≤ 4000) (hc : c.length ≤ 256) (ho : op < 19) (hn : op = 4 ∨ op = 5 ∨ op = 6 → 0 ≤ n ∧ n ≤ 255) :
    Calls Tryz.prog 188 #[insV op n tw pl, .pointer (some ⟨p, 0, none⟩)] w fun e w' => ChAns w p vs vc (changeR op n.toNat st c) e w' := by
  unfold changeR
  by_cases h4 : op = 4
  · subst h4
    obtain ⟨q1, q2⟩ := hn (by omega)
    obtain ⟨m, rfl⟩ : ∃ m : Nat, n = m := ⟨n.toNat, by omega⟩
    rw [if_pos rfl, Int.toNat_natCast]
    exact change4 m tw pl h hl (by omega)
  rw [if_neg h4]
  by_cases h5 : op = 5
  · subst h5
    obtain ⟨q1, q2⟩ := hn (by omega)
    obtain ⟨m, rfl⟩ : ∃ m : Nat, n = m := ⟨n.toNat, by omega⟩
    rw [if_pos rfl, Int.toNat_natCast]
    exact change5 m tw pl h hl hc (by omega)
  rw [if_neg h5]
  by_cases h6 : op = 6
  · subst h6
    obtain ⟨q1, q2⟩ := hn (by omega)
    obtain ⟨m, rfl⟩ : ∃ m : Nat, n = m := ⟨n.toNat, by omega⟩
    rw [if_pos rfl, Int.toNat_natCast]
    exact change6 m tw pl h hl hc (by omega)
  rw [if_neg h6]
  by_cases h9 : op = 9
  · subst h9
    rw [if_pos rfl]
    exact change9 n tw pl h hl
  rw [if_neg h9]
  exact changeO op n tw pl hE h hl ho h4 h5 h6 h9
end Go.Proofs.YtfkdailfcmnjlaaGreatDoor

namespace Go.Proofs.YtfkdailfcmnjlaaGreatDoor
open Go Go.RowKit
set_option maxRecDepth 100000

/-- A stack's types as they lie in memory, the lowest first. -/
def stI (l : List Nat) : List Int := l.reverse.map fun (t : Nat) => (t : Int)
/-- What is known, as it lies in memory. -/
structure KnIs (k : Kn) (st c : List Int) : Prop where
  st : st = stI k.st
  len : c.length ≤ k.cl.length
  cl : ∀ i, c.getD i 0 = (k.cl.getD i 0 : Nat)
theorem top_nil : (stI []).getLast?.getD 0 = 0 := rfl
theorem top_cons (t : Nat) (r : List Nat) : (stI (t :: r)).getLast?.getD 0 = (t : Int) := by simp [stI]
theorem rest_cons (t : Nat) (r : List Nat) : (stI (t :: r)).dropLast = stI r := by simp [stI]
theorem push_cons (t : Nat) (r : List Nat) : stI r ++ [(t : Int)] = stI (t :: r) := by simp [stI]
/-- So many of one type are taken off a stack. -/
theorem onS_take (t : Nat) (h0 : t ≠ 0) : ∀ (n : Nat) (l : List Nat), onS n t (stI l) = if l.take n = List.replicate n t then some (stI (l.drop n)) else none
  | 0, l => by simp [onS]
  | n + 1, [] => by
    rw [onS, if_neg (by rw [top_nil]; omega), if_neg]
    intro h; have := congrArg List.length h; simp at this
  | n + 1, x :: r => by
    rw [onS, top_cons, rest_cons, onS_take t h0 n r]
    by_cases hx : x = t
    · subst hx
      rw [if_pos rfl]
      by_cases h : r.take n = List.replicate n x
      · rw [if_pos h, if_pos (by simp [List.replicate_succ, h])]; rfl
      · rw [if_neg h, if_neg]
        intro h'
        simp [List.replicate_succ] at h'
        exact h h'
    · rw [if_neg (by omega), if_neg]
      intro h'
      simp [List.replicate_succ] at h'
      exact hx h'.1
def ChIs (r : Option Kn) (q : Option (List Int × List Int)) : Prop := match r with
  | some k => ∃ st c, q = some (st, c) ∧ KnIs k st c
  | none => q = none
theorem learn_len (c : List Int) (k : Nat) (x : Int) : (learnL c k x).length = max c.length (k + 1) := by
  unfold learnL; simp; omega
theorem getD_app_zeros (c : List Int) (m i : Nat) : (c ++ List.replicate m 0).getD i 0 = c.getD i 0 := by
  rw [List.getD_eq_getElem?_getD, List.getD_eq_getElem?_getD]
  by_cases h : i < c.length
  · rw [List.getElem?_append_left h]
  · rw [List.getElem?_append_right (by omega), List.getElem?_eq_none (l := c) (by omega), List.getElem?_replicate]
    split <;> rfl
theorem learn_at (c : List Int) (k : Nat) (x : Int) (i : Nat) : (learnL c k x).getD i 0 = if i = k then x else c.getD i 0 := by
  unfold learnL
  rw [getD_setI, getD_app_zeros]
  by_cases h : i = k
  · subst h; rw [if_pos ⟨rfl, by simp; omega⟩, if_pos rfl]
  · rw [if_neg (fun a => h a.1), if_neg h]
theorem onR_takes {k : Kn} {st c : List Int} (h : KnIs k st c) (n t : Nat) (o : Option Nat) (ht : t ≠ 0) (ho : ∀ x, o = some x → x ≠ 0) (more : List Nat) (hm : more = o.toList) :
    ChIs (takesK (List.replicate n t) more k) (onR n t ((o.getD 0 : Nat) : Int) st c) := by
  subst hm
  unfold takesK onR
  rw [h.st, onS_take t ht n, List.length_replicate]
  by_cases e : k.st.take n = List.replicate n t
  · rw [if_pos e, if_pos e]
    cases o with
    | none => exact ⟨_, _, rfl, rfl, h.len, h.cl⟩
    | some x =>
      have hx := ho x rfl
      refine ⟨_, _, rfl, ?_, h.len, h.cl⟩
      simp only [Option.getD_some]
      rw [if_neg (by omega), push_cons]; rfl
  · rw [if_neg e, if_neg e]; rfl
theorem field_eq (n : Nat) : fieldI n = (fieldTy n : Nat) := by unfold fieldI fieldTy; (repeat' split) <;> rfl
theorem change_does {k : Kn} {st c : List Int} (h : KnIs k st c) (h1 : Tys1 k.st) (op n : Nat) (ho : 1 ≤ op ∧ op ≤ 18) (hn : op = 5 → n < k.cl.length) : ChIs (doesK op n k) (changeR op n st c) := by
  have e : op = 1 ∨ op = 2 ∨ op = 3 ∨ op = 4 ∨ op = 5 ∨ op = 6 ∨ op = 7 ∨ op = 8 ∨ op = 9 ∨ op = 10 ∨ op = 11 ∨ op = 12 ∨ op = 13 ∨ op = 14 ∨ op = 15 ∨ op = 16 ∨ op = 17 ∨ op = 18 := by omega
  have push : ∀ t : Nat, KnIs ⟨t :: k.st, k.cl⟩ (st ++ [(t : Int)]) c := fun t => ⟨by rw [h.st, push_cons], h.len, h.cl⟩
  rcases e with rfl | rfl | rfl | rfl | rfl | rfl | rfl | rfl | rfl | rfl | rfl | rfl | rfl | rfl | rfl | rfl | rfl | rfl
  · exact ⟨_, _, rfl, push 1⟩
  · exact ⟨_, _, rfl, push 2⟩
  · exact ⟨_, _, rfl, push 3⟩
  · exact ⟨_, _, rfl, by rw [field_eq]; exact push _⟩
  · have e : doesK 5 n k = (match k.st with
      | [] => none
      | t :: r => some ⟨r, k.cl.set n t⟩) := rfl
    have e2 : changeR 5 n st c = if st.getLast?.getD 0 = 0 then none else some (st.dropLast, learnL c n (st.getLast?.getD 0)) := rfl
    rw [e, e2, h.st]
    cases hs : k.st with
    | nil => exact if_pos rfl
    | cons t r =>
      have ht := (h1 t (by rw [hs]; simp)).1
      rw [top_cons, rest_cons, if_neg (by omega)]
      refine ⟨_, _, rfl, rfl, ?_, fun i => ?_⟩
      · rw [learn_len]; have := h.len; have := hn rfl; simp; omega
      · rw [learn_at]
        by_cases hi : i = n
        · subst hi; rw [if_pos rfl, getD_set_eq (hn rfl)]
        · rw [if_neg hi, getD_set_ne (fun e => hi e.symm)]; exact h.cl i
  · have e : doesK 6 n k = if k.cl.getD n 0 = 0 then none else some ⟨k.cl.getD n 0 :: k.st, k.cl⟩ := rfl
    have e2 : changeR 6 n st c = if c.getD n 0 = 0 then none else some (st ++ [c.getD n 0], c) := rfl
    rw [e, e2, h.cl n]
    by_cases h0 : k.cl.getD n 0 = 0
    · rw [if_pos h0, if_pos (by omega)]; rfl
    · rw [if_neg h0, if_neg (by omega)]
      exact ⟨_, _, rfl, push _⟩
  · exact onR_takes h 2 1 (some 1) (by decide) (by simp) [1] rfl
  · exact onR_takes h 2 1 (some 1) (by decide) (by simp) [1] rfl
  · have e2 : changeR 9 n st c = if st.dropLast.getLast?.getD 0 = st.getLast?.getD 0 ∧ st.dropLast.getLast?.getD 0 ≠ 0 then some (st.dropLast.dropLast ++ [2], c) else none := rfl
    have e : doesK 9 n k = (match k.st with
      | x :: y :: r => if x = y then some ⟨2 :: r, k.cl⟩ else none
      | _ => none) := rfl
    rw [e, e2, h.st]
    match hs : k.st with
    | [] => exact if_neg (by simp [stI])
    | [x] => exact if_neg (by simp [stI])
    | x :: y :: r =>
      have hx := (h1 x (by rw [hs]; simp)).1
      have hy := (h1 y (by rw [hs]; simp)).1
      rw [rest_cons, top_cons, top_cons, rest_cons]
      show ChIs (if x = y then some ⟨2 :: r, k.cl⟩ else none) _
      by_cases hxy : x = y
      · rw [if_pos hxy, if_pos ⟨by omega, by omega⟩]
        exact ⟨_, _, rfl, by rw [show (2 : Int) = ((2 : Nat) : Int) from rfl, push_cons], h.len, h.cl⟩
      · rw [if_neg hxy, if_neg (fun a => hxy (by omega))]; rfl
  · exact onR_takes h 2 1 (some 2) (by decide) (by simp) [2] rfl
  · exact onR_takes h 2 1 (some 2) (by decide) (by simp) [2] rfl
  · exact onR_takes h 1 2 (some 2) (by decide) (by simp) [2] rfl
  · exact onR_takes h 2 2 (some 2) (by decide) (by simp) [2] rfl
  · exact onR_takes h 2 2 (some 2) (by decide) (by simp) [2] rfl
  · exact onR_takes h 1 2 none (by decide) (by simp) [] rfl
  · exact ⟨_, _, rfl, h⟩
  · exact ⟨_, _, rfl, h⟩
  · exact ⟨_, _, rfl, h⟩
/-- Types stay types. -/
theorem does_tys {op n : Nat} {k k' : Kn} (ho : 1 ≤ op ∧ op ≤ 18) (h1 : Tys1 k.st) (h2 : Tys k.cl) (h : doesK op n k = some k') : Tys1 k'.st ∧ Tys k'.cl ∧ k'.cl.length = k.cl.length := by
  have tk : ∀ {want more : List Nat}, Tys1 more → takesK want more k = some k' → Tys1 k'.st ∧ Tys k'.cl ∧ k'.cl.length = k.cl.length := fun {want more} hm he => by
    obtain ⟨_, rfl⟩ := takes_st he
    exact ⟨fun t ht => by
      rcases List.mem_append.1 ht with ht | ht
      · exact hm t ht
      · exact h1 t (List.mem_of_mem_drop ht), h2, rfl⟩
  have ps : ∀ t : Nat, 1 ≤ t → t < 4 → some ⟨t :: k.st, k.cl⟩ = some k' → Tys1 k'.st ∧ Tys k'.cl ∧ k'.cl.length = k.cl.length := fun t ha hb he => by
    obtain rfl := Option.some.inj he
    exact ⟨fun x hx => by
      rcases List.mem_cons.1 hx with rfl | hx
      · exact ⟨ha, hb⟩
      · exact h1 x hx, h2, rfl⟩
  have one : ∀ x : Nat, 1 ≤ x → x < 4 → Tys1 [x] := fun x ha hb t ht => by simp at ht; subst ht; exact ⟨ha, hb⟩
  have e : op = 1 ∨ op = 2 ∨ op = 3 ∨ op = 4 ∨ op = 5 ∨ op = 6 ∨ op = 7 ∨ op = 8 ∨ op = 9 ∨ op = 10 ∨ op = 11 ∨ op = 12 ∨ op = 13 ∨ op = 14 ∨ op = 15 ∨ op = 16 ∨ op = 17 ∨ op = 18 := by omega
  have same : some k = some k' → Tys1 k'.st ∧ Tys k'.cl ∧ k'.cl.length = k.cl.length := fun h => by obtain rfl := Option.some.inj h; exact ⟨h1, h2, rfl⟩
  rcases e with rfl | rfl | rfl | rfl | rfl | rfl | rfl | rfl | rfl | rfl | rfl | rfl | rfl | rfl | rfl | rfl | rfl | rfl
  · exact ps 1 (by omega) (by omega) h
  · exact ps 2 (by omega) (by omega) h
  · exact ps 3 (by omega) (by omega) h
  · exact ps (fieldTy n) (by unfold fieldTy; (repeat' split) <;> omega) (by unfold fieldTy; (repeat' split) <;> omega) h
  · have e : doesK 5 n k = (match k.st with
      | [] => none
      | t :: r => some ⟨r, k.cl.set n t⟩) := rfl
    rw [e] at h
    split at h
    · cases h
    · rename_i t r hs
      obtain rfl := Option.some.inj h
      refine ⟨fun x hx => h1 x (by rw [hs]; simp [hx]), fun x hx => ?_, by simp⟩
      rcases List.mem_or_eq_of_mem_set hx with hx | rfl
      · exact h2 x hx
      · exact (h1 x (by rw [hs]; simp)).2
  · have e : doesK 6 n k = if k.cl.getD n 0 = 0 then none else some ⟨k.cl.getD n 0 :: k.st, k.cl⟩ := rfl
    rw [e] at h
    by_cases h0 : k.cl.getD n 0 = 0
    · rw [if_pos h0] at h; cases h
    · rw [if_neg h0] at h
      refine ps (k.cl.getD n 0) (by omega) ?_ h
      rw [List.getD_eq_getElem?_getD]
      cases e : k.cl[n]? with
      | none => decide
      | some v => exact h2 v (List.mem_of_getElem? e)
  · exact tk (one 1 (by omega) (by omega)) h
  · exact tk (one 1 (by omega) (by omega)) h
  · have e : doesK 9 n k = (match k.st with
      | x :: y :: r => if x = y then some ⟨2 :: r, k.cl⟩ else none
      | _ => none) := rfl
    rw [e] at h
    split at h
    · rename_i x y r hs
      split at h
      · obtain rfl := Option.some.inj h
        exact ⟨fun t ht => by
          rcases List.mem_cons.1 ht with rfl | ht
          · omega
          · exact h1 t (by rw [hs]; simp [ht]), h2, rfl⟩
      · cases h
    · cases h
  · exact tk (one 2 (by omega) (by omega)) h
  · exact tk (one 2 (by omega) (by omega)) h
  · exact tk (one 2 (by omega) (by omega)) h
  · exact tk (one 2 (by omega) (by omega)) h
  · exact tk (one 2 (by omega) (by omega)) h
  · exact tk (fun t ht => by simp at ht) h
  · exact same h
  · exact same h
  · exact same h
/-- What two ways know, in memory. -/
theorem met_is {a b : Kn} {st c st2 c2 : List Int} (h : KnIs a st c) (h2 : KnIs b st2 c2) (hl : a.cl.length = b.cl.length) : KnIs ⟨a.st, meetC a.cl b.cl⟩ st (metL c c2 c.length) := by
  refine ⟨h.st, by rw [metL_len]; have := h.len; simp [meetC]; omega, fun i => ?_⟩
  show _ = (((meetC a.cl b.cl).getD i 0 : Nat) : Int)
  rw [meet_at]
  by_cases hi : i < c.length
  · have hlen := h.len
    rw [metL_at _ _ _ hi, if_pos hi, h.cl i, h2.cl i, if_pos (c := i < a.cl.length ∧ i < b.cl.length) ⟨by omega, by omega⟩]
    by_cases e : a.cl.getD i 0 = b.cl.getD i 0
    · rw [if_pos e, if_pos (by omega)]
    · rw [if_neg e, if_neg (by omega)]; rfl
  · have e0 := h.cl i
    rw [List.getD_eq_getElem?_getD, List.getElem?_eq_none (by omega)] at e0
    have e1 : a.cl.getD i 0 = 0 := by simp only [Option.getD_none] at e0; omega
    rw [List.getD_eq_getElem?_getD, List.getElem?_eq_none (by rw [metL_len]; omega), e1]
    simp
end Go.Proofs.YtfkdailfcmnjlaaGreatDoor

namespace Go.Proofs.YtfkdailfcmnjlaaGreatDoor
open Go Go.RowKit
set_option maxRecDepth 100000
attribute [local go_sem ↓] Go.wp_at_zero Go.wp_at_succ

def goL (op : Nat) (tj : Int) (i : Nat) : List Int := if op = 17 ∨ op = 18 then [] else if op = 16 then [tj] else if op = 15 then [(i : Int) + 1, tj] else [(i : Int) + 1]
theorem newRow (w : World) (e : TypeId) (l : List Int) (hl : l.length ≤ 100) : IR (w.alloc (.cells (l.map (Value.int .i64)).toArray e)) e (.slice (some ⟨w.heap.size, 0, none⟩) l.length l.length) l := by
  have h := World.ownsRow_lit (base := 0) (e := e) (size := 1) w (l.map (Value.int .i64)).toArray l.length (Nat.zero_le _) (by unfold maxLen; omega) (by simp)
  simpa [IR] using h
set_option maxHeartbeats 4000000 in
theorem goesOn_any (op : Nat) (n tj pl : Int) (i : Nat) (hi : i ≤ 5000) (w : World) :
    Calls Tryz.prog 190 #[insV op n tj pl, .int .i64 i] w fun e w' => (∃ v, e = .returned v ∧ IR w' 3 v (goL op tj i) ∧ ∀ b, v.ownBlock = some b → w.heap.size ≤ b) ∧ Below w.heap.size w w' := by
  have H1 : Hid (∀ l : List Int, l.length ≤ 100 → ∀ w : World, IR (w.alloc (.cells (l.map (Value.int .i64)).toArray 3)) 3 (.slice (some ⟨w.heap.size, 0, none⟩) l.length l.length) l) := fun l hl w => newRow w _ l hl
  have HB : Hid (∀ o o', Below w.heap.size w ((w.alloc o).alloc o')) := fun o o' => ((Below.refl _ _).alloc (Nat.le_refl _) _).alloc (by simp) _
  have HB1 : Hid (∀ o, Below w.heap.size w (w.alloc o)) := fun o => ((Below.refl _ _).alloc (Nat.le_refl _) _)
  unfold insV
  by_cases h17 : op = 17
  · subst h17
    have HL : Hid (goL 17 tj i = []) := rfl
    generalize goL 17 tj i = L at *
    go_enter Tryz.func190, Tryz.ntmps190
    go_wp2
    go_ret
    exact ⟨⟨_, rfl, by rw [HL.out]; exact IR.nil _ _, fun b hb => by simp [Value.ownBlock] at hb⟩, HB1.out _⟩
  by_cases h18 : op = 18
  · subst h18
    have HL : Hid (goL 18 tj i = []) := rfl
    generalize goL 18 tj i = L at *
    go_enter Tryz.func190, Tryz.ntmps190
    go_wp2
    go_ret
    exact ⟨⟨_, rfl, by rw [HL.out]; exact IR.nil _ _, fun b hb => by simp [Value.ownBlock] at hb⟩, HB1.out _⟩
  by_cases h16 : op = 16
  · subst h16
    have HL : Hid (goL 16 tj i = [tj]) := rfl
    generalize goL 16 tj i = L at *
    go_enter Tryz.func190, Tryz.ntmps190
    go_wp2
    go_ret
    refine ⟨⟨_, rfl, ?_, fun b hb => by simp [Value.ownBlock] at hb; omega⟩, HB.out _ _⟩
    rw [HL.out]; have := H1.out [tj] (by simp) (w.alloc (.cells #[.int .i64 16, .int .i64 n, .int .i64 tj, .int .i64 pl] 247)); simpa using this
  by_cases h15 : op = 15
  · subst h15
    have HL : Hid (goL 15 tj i = [(i : Int) + 1, tj]) := rfl
    generalize goL 15 tj i = L at *
    go_enter Tryz.func190, Tryz.ntmps190
    go_wp2
    go_ret
    refine ⟨⟨_, rfl, ?_, fun b hb => by simp [Value.ownBlock] at hb; omega⟩, HB.out _ _⟩
    rw [HL.out]; have := H1.out [(i : Int) + 1, tj] (by simp) (w.alloc (.cells #[.int .i64 15, .int .i64 n, .int .i64 tj, .int .i64 pl] 247)); simpa using this
  · have HL : Hid (goL op tj i = [(i : Int) + 1]) := by show _ = _; unfold goL; rw [if_neg (by omega), if_neg h16, if_neg h15]
    have b17 : ((op : Int) == 17) = false := by simp; omega
    have b18 : ((op : Int) == 18) = false := by simp; omega
    have b16 : ((op : Int) == 16) = false := by simp; omega
    have b15 : ((op : Int) == 15) = false := by simp; omega
    clear h17 h18 h16 h15
    generalize goL op tj i = L at *
    go_enter Tryz.func190, Tryz.ntmps190
    go_wp2
    go_ret
    refine ⟨⟨_, rfl, ?_, fun b hb => by simp [Value.ownBlock] at hb; omega⟩, HB.out _ _⟩
    rw [HL.out]; have := H1.out [(i : Int) + 1] (by simp) (w.alloc (.cells #[.int .i64 op, .int .i64 n, .int .i64 tj, .int .i64 pl] 247)); simpa using this
/-- What is known at the places that may still be come tj, in memory; whose each block is. -/
structure ComeAt (w : World) (B g lo : Nat) (O : Nat → Nat) (come : List (Option Kn)) : Prop where
  blk : ∃ cs, w.heap[g]? = some (.cells cs 285 (0, 0)) ∧ cs.size = come.length
  non : ∀ j, lo ≤ j → j < come.length → come.getD j none = none → w.cell? ⟨g, j, none⟩ = some (.pointer none)
  som : ∀ j, lo ≤ j → j < come.length → ∀ k, come.getD j none = some k → ∃ p vs vc st c, w.cell? ⟨g, j, none⟩ = some (.pointer (some ⟨p, 0, none⟩)) ∧ SetAt w p vs vc st c ∧ KnIs k st c ∧ ∀ b, Foot p vs vc b → O b = j + 1
  own : O g = 0
  low : ∀ b, O b ≠ 0 → B ≤ b
  lowg : B ≤ g
  siz : B ≤ w.heap.size
end Go.Proofs.YtfkdailfcmnjlaaGreatDoor

namespace Go.Proofs.YtfkdailfcmnjlaaGreatDoor
open Go Go.RowKit
set_option maxRecDepth 100000
attribute [local go_sem ↓] Go.wp_at_zero Go.wp_at_succ

/-- Whose a block is, once one place more has its blocks. -/
def ownN (O : Nat → Nat) (s j : Nat) (b : Nat) : Nat := if s ≤ b then j + 1 else O b
theorem ComeAt.lt {w : World} {B g lo : Nat} {O : Nat → Nat} {come : List (Option Kn)} (h : ComeAt w B g lo O come) : g < w.heap.size := by
  obtain ⟨cs, hc, _⟩ := h.blk; exact lt_of_get hc
theorem ComeAt.upd {w w' : World} {B g lo j : Nat} {O : Nat → Nat} {come : List (Option Kn)} {k' : Kn} (h : ComeAt w B g lo O come) (hj : lo ≤ j) (hjn : j < come.length) (ho : Only (fun b => b = g ∨ O b = j + 1) w w')
    (hblk : ∃ cs, w'.heap[g]? = some (.cells cs 285 (0, 0)) ∧ cs.size = come.length) (hcell : ∀ j', j' ≠ j → w'.cell? ⟨g, j', none⟩ = w.cell? ⟨g, j', none⟩)
    (hnew : ∃ p vs vc st c, w'.cell? ⟨g, j, none⟩ = some (.pointer (some ⟨p, 0, none⟩)) ∧ SetAt w' p vs vc st c ∧ KnIs k' st c ∧ ∀ b, Foot p vs vc b → O b = j + 1 ∨ w.heap.size ≤ b) : ComeAt w' B g lo (ownN O w.heap.size j) (come.set j (some k')) := by
  have hg := h.lt
  have hlen : (come.set j (some k')).length = come.length := by simp
  refine ⟨by rw [hlen]; exact hblk, fun i hi hin hn => ?_, fun i hi hin k hk => ?_, ?_, fun b hb => ?_, h.lowg, Nat.le_trans h.siz ho.size⟩
  · rw [hlen] at hin
    by_cases e : i = j
    · subst e; rw [getD_set_eq hjn] at hn; cases hn
    · rw [getD_set_ne (fun a => e a.symm)] at hn
      rw [hcell i e]; exact h.non i hi hin hn
  · rw [hlen] at hin
    by_cases e : i = j
    · subst e
      rw [getD_set_eq hjn] at hk
      obtain rfl := Option.some.inj hk
      obtain ⟨p, vs, vc, st, c, h1, h2, h3, h4⟩ := hnew
      refine ⟨p, vs, vc, st, c, h1, h2, h3, fun b hb => ?_⟩
      unfold ownN
      rcases h4 b hb with h5 | h5
      · split
        · rfl
        · exact h5
      · rw [if_pos h5]
    · rw [getD_set_ne (fun a => e a.symm)] at hk
      obtain ⟨p, vs, vc, st, c, h1, h2, h3, h4⟩ := h.som i hi hin k hk
      refine ⟨p, vs, vc, st, c, by rw [hcell i e]; exact h1, h2.only ho (fun b hb hn => ?_), h3, fun b hb => ?_⟩
      · have h5 := h4 b hb
        rcases hn with rfl | hn
        · rw [h.own] at h5; omega
        · omega
      · unfold ownN
        rw [if_neg (by have := h2.lt hb; omega)]; exact h4 b hb
  · unfold ownN; rw [if_neg (by omega)]; exact h.own
  · unfold ownN at hb
    by_cases e : w.heap.size ≤ b
    · have := h.siz; omega
    · rw [if_neg e] at hb; exact h.low b hb
/-- What bringing leaves. -/
def ComeOut (O : Nat → Nat) (w w' : World) (B g lo : Nat) (come : List (Option Kn)) (i p : Nat) (vs vc : Value) (st c : List Int) : Prop :=
  ∃ O', ComeAt w' B g lo O' come ∧ SetAt w' p vs vc st c ∧ (∀ b, Foot p vs vc b → O' b = i + 1) ∧ Below B w w' ∧ ∀ b, b < w.heap.size → b ≠ g → O b = 0 → O' b = 0 ∧ w'.heap[b]? = w.heap[b]?
theorem ComeAt.rest {w w' : World} {g j : Nat} {O : Nat → Nat} (ho : Only (fun b => b = g ∨ O b = j + 1) w w') : ∀ b, b < w.heap.size → b ≠ g → O b = 0 → ownN O w.heap.size j b = 0 ∧ w'.heap[b]? = w.heap[b]? := fun b hb hg h0 => by
  refine ⟨by unfold ownN; rw [if_neg (by omega)]; exact h0, ho.block b hb (fun h => ?_)⟩
  rcases h with h | h
  · exact hg h
  · omega
theorem ComeAt.below {w w' : World} {B g lo j : Nat} {O : Nat → Nat} {come : List (Option Kn)} (h : ComeAt w B g lo O come) (ho : Only (fun b => b = g ∨ O b = j + 1) w w') : Below B w w' :=
  ho.below h.siz (fun b _ hb => by
    rcases hb with rfl | hb
    · exact h.lowg
    · exact h.low b (by omega))
theorem ComeAt.here {w w' : World} {B g lo i j p : Nat} {O : Nat → Nat} {come : List (Option Kn)} {vs vc : Value} {st c : List Int} (h : ComeAt w B g lo O come) (hs : SetAt w p vs vc st c) (hO : ∀ b, Foot p vs vc b → O b = i + 1) (hij : i ≠ j) (ho : Only (fun b => b = g ∨ O b = j + 1) w w') : SetAt w' p vs vc st c ∧ ∀ b, Foot p vs vc b → ownN O w.heap.size j b = i + 1 := by
  refine ⟨hs.only ho (fun b hb hn => ?_), fun b hb => ?_⟩
  · have h5 := hO b hb
    rcases hn with rfl | hn
    · rw [h.own] at h5; omega
    · omega
  · unfold ownN; rw [if_neg (by have := hs.lt hb; omega)]; exact hO b hb
theorem stI_inj {a b : List Nat} : stI a = stI b ↔ a = b := by
  refine ⟨fun h => ?_, fun h => by rw [h]⟩
  have h1 : a.reverse = b.reverse := by
    unfold stI at h
    exact (List.map_inj_right (fun x y e => by omega)).1 h
  simpa using h1
set_option maxHeartbeats 4000000 in
theorem comeTo_fail {tj : Int} {g n cap p : Nat} (hn : n ≤ 5000) (ht : tj = 0 ∨ tj = n) (w : World) :
    Calls Tryz.prog 191 #[.slice (some ⟨g, 0, none⟩) n cap, .int .i64 tj, .pointer (some ⟨p, 0, none⟩)] w fun e w' => e = .returned (.bool false) ∧ w' = w := by
  by_cases h0 : tj = 0
  · subst h0
    clear ht
    go_enter Tryz.func191, Tryz.ntmps191
    go_wp2
    go_ret
    exact ⟨rfl, rfl⟩
  · obtain rfl : tj = n := by omega
    have b0 : ((n : Int) == 0) = false := by simp; omega
    clear ht h0
    go_enter Tryz.func191, Tryz.ntmps191
    go_wp2
    go_ret
    exact ⟨rfl, rfl⟩
set_option maxHeartbeats 4000000 in
theorem comeTo_new {w : World} {B g lo i j p cap : Nat} {O : Nat → Nat} {come : List (Option Kn)} {vs vc : Value} {st c : List Int} {k : Kn} (h : ComeAt w B g lo O come) (hs : SetAt w p vs vc st c) (hk : KnIs k st c) (hO : ∀ b, Foot p vs vc b → O b = i + 1) (hij : i ≠ j) (hj : lo ≤ j) (hj0 : 0 < j) (hjn : j < come.length) (hn : come.length ≤ 5000) (hl : st.length ≤ 5000) (hc : c.length ≤ 5000) (hno : come.getD j none = none) :
    Calls Tryz.prog 191 #[.slice (some ⟨g, 0, none⟩) come.length cap, .int .i64 j, .pointer (some ⟨p, 0, none⟩)] w fun e w' => e = .returned (.bool true) ∧ ComeOut O w w' B g lo (come.set j (some k)) i p vs vc st c := by
  have hcell := h.non j hj hjn hno
  have hfr : w.frozen? ⟨g, j, none⟩ = false := by obtain ⟨cs, hc, _⟩ := h.blk; simp [World.frozen?, hc]
  have b0 : ((j : Int) == 0) = false := by simp; omega
  have bn : ((j : Int) == (come.length : Int)) = false := by simp; omega
  have W1 : ∀ W, Below w.heap.size w W → Calls Tryz.prog 236 #[.pointer (some ⟨p, 0, none⟩)] W fun e w' => ∃ p' vs' vc', e = .returned (.pointer (some ⟨p', 0, none⟩)) ∧ SetAt w' p' vs' vc' st c ∧ Below W.heap.size W w' ∧ ∀ b, Foot p' vs' vc' b → W.heap.size ≤ b := fun W hb => sclone_any (hs.only (Only.of_below (F := fun _ => False) hb) (fun _ _ h => h)) hl hc
  have HA : Hid (∀ w1 p' vs' vc', SetAt w1 p' vs' vc' st c → Below w.heap.size w w1 → (∀ b, Foot p' vs' vc' b → w.heap.size ≤ b) → ComeOut O w (w1.setCell ⟨g, j, none⟩ (.pointer (some ⟨p', 0, none⟩))) B g lo (come.set j (some k)) i p vs vc st c) := fun w1 p' vs' vc' h1 h2 h3 => by
    have hg := h.lt
    obtain ⟨cs, hcs, hsz⟩ := h.blk
    have hb1 : w1.heap[g]? = _ := (h2.block g hg).trans hcs
    have ho : Only (fun b => b = g ∨ O b = j + 1) w (w1.setCell ⟨g, j, none⟩ (.pointer (some ⟨p', 0, none⟩))) := (Only.of_below h2).setCell (.inl (.inl rfl)) _
    obtain ⟨q1, q2⟩ := h.here hs hO hij ho
    refine ⟨ownN O w.heap.size j, h.upd hj hjn ho ⟨_, heap_setCell_same w1 g j _ _ _ hb1, by simpa using hsz⟩ (fun j' e => ?_) ⟨p', vs', vc', st, c, ?_, ?_, hk, fun b hb => .inr (h3 b hb)⟩, q1, q2, h.below ho, ComeAt.rest ho⟩
    · rw [cell_set_off _ _ _ _ _ (fun a => e a.symm)]
      exact h2.cell (p := ⟨g, j', none⟩) hg
    · exact cell_set_same _ _ _ _ (by rw [h2.cell (p := ⟨g, j, none⟩) hg, hcell]; rfl)
    · exact h1.only ((Only.refl (fun b => b = g) w1).setCell (.inl rfl) _) (fun b hb e => by have := h3 b hb; omega)
  have hcell2 : ∀ W, Below w.heap.size w W → W.cell? ⟨g, j, none⟩ = some (.pointer none) ∧ W.frozen? ⟨g, j, none⟩ = false := fun W hb => ⟨by rw [hb.cell (p := ⟨g, j, none⟩) h.lt]; exact hcell, by rw [hb.frozen (p := ⟨g, j, none⟩) h.lt]; exact hfr⟩
  have HC2 : Hid _ := hcell2
  clear h hs hk hO hno hcell2
  generalize come.length = n at *
  go_enter Tryz.func191, Tryz.ntmps191
  go_wp2_with fail
  refine (W1 w (Below.refl _ _)).mono ?_
  rintro e w1 ⟨p', vs', vc', rfl, h1, h2, h3⟩
  obtain ⟨d1, d2⟩ := HC2.out w1 h2
  have HU : Hid _ := HA.out w1 p' vs' vc' h1 h2 h3
  clear h1 h2 h3 W1 HA HC2
  go_wp2
  go_ret
  exact ⟨rfl, HU.out⟩
set_option maxHeartbeats 4000000 in
theorem comeTo_old {w : World} {B g lo i j p cap : Nat} {O : Nat → Nat} {come : List (Option Kn)} {vs vc : Value} {st c : List Int} {k a : Kn} (h : ComeAt w B g lo O come) (hs : SetAt w p vs vc st c) (hk : KnIs k st c) (hO : ∀ b, Foot p vs vc b → O b = i + 1) (hij : i ≠ j) (hj : lo ≤ j) (hj0 : 0 < j) (hjn : j < come.length) (hn : come.length ≤ 5000) (hl : st.length ≤ 5000) (ha1 : a.st.length ≤ 5000) (ha2 : a.cl.length ≤ 5000) (hlen : a.cl.length = k.cl.length) (hso : come.getD j none = some a) :
    Calls Tryz.prog 191 #[.slice (some ⟨g, 0, none⟩) come.length cap, .int .i64 j, .pointer (some ⟨p, 0, none⟩)] w fun e w' => e = .returned (.bool (decide (a.st = k.st))) ∧ ComeOut O w w' B g lo (come.set j (some ⟨a.st, meetC a.cl k.cl⟩)) i p vs vc st c := by
  obtain ⟨q, us, uc, st2, c2, hcell, hs2, hk2, hO2⟩ := h.som j hj hjn a hso
  have b0 : ((j : Int) == 0) = false := by simp; omega
  have bn : ((j : Int) == (come.length : Int)) = false := by simp; omega
  have hl2 : st2.length ≤ 5000 := by rw [hk2.st]; simpa [stI] using ha1
  have hdis : ∀ b, Foot q us uc b → ¬ Foot p vs vc b := fun b h1 h2 => by have := hO2 b h1; have := hO b h2; omega
  have hl3 : c2.length ≤ 5000 := by have := hk2.len; omega
  have W1 := smeet_any hs2 hs hdis hl2 hl hl3
  have he : decide (st2 = st) = decide (a.st = k.st) := by
    rw [hk2.st, hk.st]
    exact decide_eq_decide.2 stI_inj
  rw [he] at W1
  have HA : Hid (∀ w1, SetOut w w1 q us uc st2 (metL c2 c c2.length) → ComeOut O w w1 B g lo (come.set j (some ⟨a.st, meetC a.cl k.cl⟩)) i p vs vc st c) := fun w1 ho1 => by
    obtain ⟨us', uc', h1, h2, h3⟩ := ho1
    have hg := h.lt
    obtain ⟨cs, hcs, hsz⟩ := h.blk
    have ho : Only (fun b => b = g ∨ O b = j + 1) w w1 := h2.weak (fun b _ hb => .inr (hO2 b hb))
    have hgq : ¬ Foot q us uc g := fun e => by have := hO2 g e; rw [h.own] at this; omega
    have hb1 : w1.heap[g]? = _ := (h2.block g hg hgq).trans hcs
    obtain ⟨q1, q2⟩ := h.here hs hO hij ho
    have hce : ∀ j', w1.cell? ⟨g, j', none⟩ = w.cell? ⟨g, j', none⟩ := fun j' => World.cell?_of_block (w := w) (a := ⟨g, j', none⟩) (h2.block g hg hgq)
    refine ⟨ownN O w.heap.size j, h.upd hj hjn ho ⟨_, hb1, hsz⟩ (fun j' _ => hce j') ⟨q, us', uc', st2, _, by rw [hce]; exact hcell, h1, met_is hk2 hk hlen, fun b hb => ?_⟩, q1, q2, h.below ho, ComeAt.rest ho⟩
    rcases h3 b hb with h4 | h4
    · exact .inl (hO2 b h4)
    · exact .inr h4
  clear h hs hk hO hso hs2 hk2 hO2 he hdis
  generalize come.length = n at *
  generalize hr : decide (a.st = k.st) = r at W1
  have HR : Hid _ := hr
  clear hr
  go_enter Tryz.func191, Tryz.ntmps191
  go_wp2_with (
    go_at_call 237
    refine W1.mono ?_
    rintro e w1 ⟨rfl, ho⟩
    have HU : Hid _ := HA.out _ ho
    clear ho)
  go_ret
  exact ⟨rfl, HU.out⟩
end Go.Proofs.YtfkdailfcmnjlaaGreatDoor

namespace Go.Proofs.YtfkdailfcmnjlaaGreatDoor
open Go Go.RowKit
set_option maxRecDepth 100000

/-- Where a jump comes tw, as the program keeps it. -/
def toOf (ins : List Ins) (x : Ins) : Int := if x.op = 15 ∨ x.op = 16 then (((jumpTo ins x).getD 0 : Nat) : Int) else 0
/-- A code in memory. -/
structure CodeAt (w : World) (cp gi cap cells depth : Nat) (ins : List Ins) : Prop where
  blk : w.heap[cp]? = some (.cells #[.int .i64 cells, .slice (some ⟨gi, 0, none⟩) ins.length cap, .int .i64 depth] 253 (0, 0))
  op : ∀ i, i < ins.length → w.cell? ⟨gi, i * 4, none⟩ = some (.int .i64 ((ins.getD i noIns).op : Nat))
  num : ∀ i, i < ins.length → w.cell? ⟨gi, i * 4 + 1, none⟩ = some (.int .i64 (ins.getD i noIns).n)
  tos : ∀ i, i < ins.length → w.cell? ⟨gi, i * 4 + 2, none⟩ = some (.int .i64 (toOf ins (ins.getD i noIns)))
  pls : ∀ i, i < ins.length → w.cell? ⟨gi, i * 4 + 3, none⟩ = some (.int .i64 ((ins.getD i noIns).pl : Nat))
theorem CodeAt.below {w w' : World} {cp gi cap cells depth : Nat} {ins : List Ins} (h : CodeAt w cp gi cap cells depth ins) (hb : Below w.heap.size w w') : CodeAt w' cp gi cap cells depth ins := by
  have hc : ∀ {o : Nat} {v : Value}, w.cell? ⟨gi, o, none⟩ = some v → w'.cell? ⟨gi, o, none⟩ = some v := fun {o v} e => by
    rw [hb.cell (World.block_lt_of_cell? w _ e)]; exact e
  exact ⟨(hb.block cp (lt_of_get h.blk)).trans h.blk, fun i hi => hc (h.op i hi), fun i hi => hc (h.num i hi), fun i hi => hc (h.tos i hi), fun i hi => hc (h.pls i hi)⟩
/-- A way and the number that the program keeps for it. -/
def LeadIs (n i : Nat) (o : Option Nat) (v : Int) : Prop := (o = none → v = 0 ∨ v = n) ∧ ∀ j, o = some j → v = j ∧ i + 1 ≤ j ∧ j < n
theorem lead_next {n i : Nat} (hi : i < n) : LeadIs n i (if i + 1 < n then some (i + 1) else none) ((i : Int) + 1) := by
  by_cases h : i + 1 < n
  · rw [if_pos h]; exact ⟨fun e => (by cases e), fun j e => by simp at e; omega⟩
  · rw [if_neg h]; exact ⟨fun _ => .inr (by omega), fun j e => by cases e⟩
theorem lead_jump {b : List UInt8} {ins : List Ins} (h : CodeOK b ins) {i : Nat} (hi : i < ins.length) (ho : (ins.getD i noIns).op = 15 ∨ (ins.getD i noIns).op = 16) : LeadIs ins.length i (jumpTo ins (ins.getD i noIns)) (toOf ins (ins.getD i noIns)) := by
  unfold toOf
  rw [if_pos ho]
  cases e : jumpTo ins (ins.getD i noIns) with
  | none => exact ⟨fun _ => .inl rfl, fun j e => by cases e⟩
  | some j =>
    obtain ⟨h1, h2, _⟩ := jump_fwd h hi e
    exact ⟨fun e => (by cases e), fun j' e' => by obtain rfl := Option.some.inj e'; exact ⟨rfl, by omega, h2⟩⟩
theorem leads_go {b : List UInt8} {ins : List Ins} (h : CodeOK b ins) {i : Nat} (hi : i < ins.length) : (goL (ins.getD i noIns).op (toOf ins (ins.getD i noIns)) i).length = (leadsK ins i (ins.getD i noIns)).length ∧ ∀ m, m < (leadsK ins i (ins.getD i noIns)).length → LeadIs ins.length i ((leadsK ins i (ins.getD i noIns)).getD m none) ((goL (ins.getD i noIns).op (toOf ins (ins.getD i noIns)) i).getD m 0) := by
  have hj := lead_jump h hi
  have hx := lead_next hi
  generalize ins.getD i noIns = x at *
  generalize toOf ins x = v at *
  unfold goL leadsK
  by_cases h15 : x.op = 15
  · rw [if_neg (by omega), if_neg (by omega), if_pos h15, if_pos h15]
    refine ⟨rfl, fun m hm => ?_⟩
    have hm' : m < 2 := hm
    match m, hm' with
    | 0, _ => exact hx
    | 1, _ => exact hj (.inl h15)
  · by_cases h16 : x.op = 16
    · rw [if_neg (by omega), if_pos h16, if_neg h15, if_pos h16]
      refine ⟨rfl, fun m hm => ?_⟩
      have hm' : m < 1 := hm
      match m, hm' with
      | 0, _ => exact hj (.inr h16)
    · by_cases h17 : x.op = 17 ∨ x.op = 18
      · rw [if_pos h17, if_neg h15, if_neg h16, if_pos h17]
        exact ⟨rfl, fun m hm => absurd hm (Nat.not_lt_zero m)⟩
      · rw [if_neg h17, if_neg h16, if_neg h15, if_neg h15, if_neg h16, if_neg h17]
        refine ⟨rfl, fun m hm => ?_⟩
        have hm' : m < 1 := hm
        match m, hm' with
        | 0, _ => exact hx
/-- What is known is of types. -/
def ComeTy (cells : Nat) (come : List (Option Kn)) : Prop := ∀ j k, come.getD j none = some k → Tys1 k.st ∧ Tys k.cl ∧ k.cl.length = cells ∧ k.st.length ≤ 24
theorem ComeTy.set {cells : Nat} {come : List (Option Kn)} (h : ComeTy cells come) {j : Nat} {k : Kn} (hk : Tys1 k.st ∧ Tys k.cl ∧ k.cl.length = cells ∧ k.st.length ≤ 24) : ComeTy cells (come.set j (some k)) := fun i k' e => by
  by_cases hij : j = i
  · subst hij
    by_cases hl : j < come.length
    · rw [getD_set_eq hl] at e; obtain rfl := Option.some.inj e; exact hk
    · rw [List.set_eq_of_length_le (by omega)] at e; exact h j k' e
  · rw [getD_set_ne hij] at e; exact h i k' e
theorem meet_tys {a b : List Nat} (h : Tys a) : Tys (meetC a b) := fun t ht => by
  unfold meetC at ht
  obtain ⟨i, hi, e⟩ := List.mem_iff_getElem.1 ht
  have h2 : (meetC a b).getD i 0 = t := by unfold meetC; rw [List.getD_eq_getElem?_getD, List.getElem?_eq_getElem hi, e]; rfl
  rw [meet_at] at h2
  split at h2
  · split at h2
    · rw [← h2, List.getD_eq_getElem?_getD, List.getElem?_eq_getElem (by omega)]
      exact h _ (List.getElem_mem _)
    · omega
  · omega
theorem come0_ty (cells n : Nat) : ComeTy cells (come0 cells n) := fun j k e => by
  unfold come0 at e
  cases j with
  | zero =>
    simp at e
    subst e
    exact ⟨fun t ht => by simp at ht, fun t ht => by simp at ht; omega, by simp, by simp⟩
  | succ j =>
    rw [List.getD_cons_succ, List.getD_eq_getElem?_getD, List.getElem?_replicate] at e
    split at e <;> cases e
/-- Blocks that aren't there yet are nobody's. -/
def ownC (O : Nat → Nat) (s : Nat) (b : Nat) : Nat := if s ≤ b then 0 else O b
theorem ComeAt.below' {w w' : World} {B g lo : Nat} {O : Nat → Nat} {come : List (Option Kn)} (h : ComeAt w B g lo O come) (hb : Below w.heap.size w w') : ComeAt w' B g lo O come := by
  obtain ⟨cs, hc, hsz⟩ := h.blk
  have hg := h.lt
  refine ⟨⟨cs, (hb.block g hg).trans hc, hsz⟩, fun j h1 h2 h3 => ?_, fun j h1 h2 k h3 => ?_, h.own, h.low, h.lowg, Nat.le_trans h.siz hb.size⟩
  · rw [hb.cell (p := ⟨g, j, none⟩) hg]; exact h.non j h1 h2 h3
  · obtain ⟨p, vs, vc, st, c, e1, e2, e3, e4⟩ := h.som j h1 h2 k h3
    exact ⟨p, vs, vc, st, c, by rw [hb.cell (p := ⟨g, j, none⟩) hg]; exact e1, e2.only (Only.of_below (F := fun _ => False) hb) (fun _ _ h => h), e3, e4⟩
theorem ComeAt.from {w : World} {B g lo lo' : Nat} {O : Nat → Nat} {come : List (Option Kn)} (h : ComeAt w B g lo O come) (hl : lo ≤ lo') : ComeAt w B g lo' O come :=
  ⟨h.blk, fun j h1 => h.non j (by omega), fun j h1 => h.som j (by omega), h.own, h.low, h.lowg, h.siz⟩
/-- Behind a change at a place: its set has other blocks, those of later places are as they were. -/
theorem ComeAt.change {w w' : World} {B g i p : Nat} {O : Nat → Nat} {come : List (Option Kn)} {vs vc : Value} {st' c' : List Int} (h : ComeAt w B g i O come) (hO : ∀ b, Foot p vs vc b → O b = i + 1) (ho : SetOut w w' p vs vc st' c') :
    ∃ O' vs' vc', ComeAt w' B g (i + 1) O' come ∧ SetAt w' p vs' vc' st' c' ∧ (∀ b, Foot p vs' vc' b → O' b = i + 1) ∧ (∀ b, w'.heap.size ≤ b → O' b = 0) ∧ Below B w w' := by
  obtain ⟨vs', vc', h1, h2, h3⟩ := ho
  have hg := h.lt
  have hgf : ¬ Foot p vs vc g := fun e => by have := hO g e; rw [h.own] at this; omega
  have hbg := h2.block g hg hgf
  obtain ⟨cs, hc, hsz⟩ := h.blk
  have hce : ∀ j, w'.cell? ⟨g, j, none⟩ = w.cell? ⟨g, j, none⟩ := fun j => World.cell?_of_block (w := w) (a := ⟨g, j, none⟩) hbg
  refine ⟨ownC (ownN O w.heap.size i) w'.heap.size, vs', vc', ?_, h1, fun b hb => ?_, fun b hb => by unfold ownC; rw [if_pos hb], h2.below h.siz (fun b _ hb => h.low b (by have := hO b hb; omega))⟩
  · refine ⟨⟨cs, hbg.trans hc, hsz⟩, fun j q1 q2 q3 => ?_, fun j q1 q2 k q3 => ?_, ?_, fun b hb => ?_, h.lowg, Nat.le_trans h.siz h2.size⟩
    · rw [hce]; exact h.non j (by omega) q2 q3
    · obtain ⟨p2, us, uc, st, c, e1, e2, e3, e4⟩ := h.som j (by omega) q2 k q3
      refine ⟨p2, us, uc, st, c, by rw [hce]; exact e1, e2.only h2 (fun b hb hn => ?_), e3, fun b hb => ?_⟩
      · have := e4 b hb; have := hO b hn; omega
      · have hlt := e2.lt hb
        have := h2.size
        unfold ownC ownN
        rw [if_neg (by omega), if_neg (by omega)]; exact e4 b hb
    · have := h2.size
      unfold ownC ownN
      rw [if_neg (by omega), if_neg (by omega)]; exact h.own
    · unfold ownC ownN at hb
      split at hb
      · exact absurd rfl hb
      · split at hb
        · have := h.siz; omega
        · exact h.low b hb
  · have hlt := h1.lt hb
    unfold ownC ownN
    rw [if_neg (by omega)]
    rcases h3 b hb with h4 | h4
    · split
      · rfl
      · exact hO b h4
    · rw [if_pos h4]
/-- Between the ways of an instruction. -/
structure InI (w wi : World) (cells : Nat) (ins : List Ins) (i p : Nat) (vs vc : Value) (st c : List Int) (v : Value) (L : List Int) (k : Kn) (come : List (Option Kn)) (leads : List (Option Nat)) (m : Nat) (O : Nat → Nat) (come' : List (Option Kn)) : Prop where
  at_ : ComeAt wi w.heap.size w.heap.size (i + 1) O come'
  len : come'.length = ins.length
  set : SetAt wi p vs vc st c
  own : ∀ b, Foot p vs vc b → O b = i + 1
  row : IR wi 3 v L
  rowO : ∀ b, v.ownBlock = some b → O b = 0
  bel : Below w.heap.size w wi
  bri : bringK come k leads = bringK come' k (leads.drop m)
  typ : ComeTy cells come'
theorem drop_cons {α : Type} {l : List α} {m : Nat} {d : α} (h : m < l.length) : l.drop m = l.getD m d :: l.drop (m + 1) := by
  rw [List.drop_eq_getElem_cons h, List.getD_eq_getElem?_getD, List.getElem?_eq_getElem h]; rfl
theorem InI.next {w wi w' : World} {cells : Nat} {ins : List Ins} {i p : Nat} {vs vc : Value} {st c : List Int} {v : Value} {L : List Int} {k : Kn} {come : List (Option Kn)} {leads : List (Option Nat)} {m : Nat} {O : Nat → Nat} {come' : List (Option Kn)} (h : InI w wi cells ins i p vs vc st c v L k come leads m O come') {j : Nat} {kk : Kn}
    (hout : ComeOut O wi w' w.heap.size w.heap.size (i + 1) (come'.set j (some kk)) i p vs vc st c) (hb : bringK come' k (leads.drop m) = bringK (come'.set j (some kk)) k (leads.drop (m + 1))) (hk : Tys1 kk.st ∧ Tys kk.cl ∧ kk.cl.length = cells ∧ kk.st.length ≤ 24) : ∃ O', InI w w' cells ins i p vs vc st c v L k come leads (m + 1) O' (come'.set j (some kk)) := by
  obtain ⟨O', h1, h2, h3, h4, h5⟩ := hout
  obtain ⟨cs, hc, _⟩ := h.at_.blk
  have hg : v.ownBlock ≠ some w.heap.size := h.row.ne hc (by decide)
  have hr : ∀ b, v.ownBlock = some b → O' b = 0 ∧ w'.heap[b]? = wi.heap[b]? := fun b hb => h5 b (h.row.lt b hb).2 (fun e => hg (by rw [← e]; exact hb)) (h.rowO b hb)
  exact ⟨O', h1, by simpa using h.len, h2, h3, ownsRow_of_block h.row (fun b hb => (hr b hb).2), fun b hb => (hr b hb).1, h.bel.trans h4, h.bri.trans hb, h.typ.set hk⟩
theorem InI.come {w wi : World} {cells : Nat} {ins : List Ins} {i p cap : Nat} {vs vc : Value} {st c : List Int} {v : Value} {L : List Int} {k : Kn} {come : List (Option Kn)} {leads : List (Option Nat)} {m : Nat} {O : Nat → Nat} {come' : List (Option Kn)} (h : InI w wi cells ins i p vs vc st c v L k come leads m O come') (hkn : KnIs k st c) (hkt : Tys1 k.st ∧ Tys k.cl ∧ k.cl.length = cells ∧ k.st.length ≤ 24) (hcells : cells ≤ 256) (hm : m < leads.length) (hn : ins.length ≤ 4000) (hv : LeadIs ins.length i (leads.getD m none) (L.getD m 0)) :
    Calls Tryz.prog 191 #[.slice (some ⟨w.heap.size, 0, none⟩) ins.length cap, .int .i64 (L.getD m 0), .pointer (some ⟨p, 0, none⟩)] wi fun e w' => ∃ r : Bool, e = .returned (.bool r) ∧ Below w.heap.size w w' ∧ (r = true → ∃ O' come2, InI w w' cells ins i p vs vc st c v L k come leads (m + 1) O' come2) ∧ (r = false → bringK come k leads = none) := by
  have hd := drop_cons (d := none) hm
  have hlen := h.len
  cases ho : leads.getD m none with
  | none =>
    refine (comeTo_fail (by omega) (hv.1 ho) wi).mono ?_
    rintro e w' ⟨rfl, rfl⟩
    refine ⟨false, rfl, h.bel, fun e => (by cases e), fun _ => ?_⟩
    rw [h.bri, hd, ho]; rfl
  | some j =>
    obtain ⟨hj, hj1, hj2⟩ := hv.2 j ho
    rw [hj, ← hlen]
    have hl : st.length ≤ 5000 := by rw [hkn.st]; simp [stI]; omega
    have hc : c.length ≤ 5000 := by have := hkn.len; omega
    cases hc' : come'.getD j none with
    | none =>
      refine (comeTo_new h.at_ h.set hkn h.own (by omega) hj1 (by omega) (by omega) (by omega) hl hc hc').mono ?_
      rintro e w' ⟨rfl, hout⟩
      have hb : bringK come' k (leads.drop m) = bringK (come'.set j (some k)) k (leads.drop (m + 1)) := by rw [hd, ho, bringK, hc']
      obtain ⟨O', h'⟩ := h.next hout hb hkt
      exact ⟨true, rfl, h'.bel, fun _ => ⟨O', _, h'⟩, fun e => by cases e⟩
    | some a =>
      obtain ⟨ta, tb, tc, td⟩ := h.typ j a hc'
      refine (comeTo_old h.at_ h.set hkn h.own (by omega) hj1 (by omega) (by omega) (by omega) hl (by omega) (by omega) (by omega) hc').mono ?_
      rintro e w' ⟨rfl, hout⟩
      by_cases hs : a.st = k.st
      · have hb : bringK come' k (leads.drop m) = bringK (come'.set j (some ⟨a.st, meetC a.cl k.cl⟩)) k (leads.drop (m + 1)) := by
          rw [hd, ho, bringK, hc']; simp only []; rw [if_pos hs]
        obtain ⟨O', h'⟩ := h.next hout hb ⟨ta, meet_tys tb, by simp [meetC]; omega, td⟩
        exact ⟨true, by rw [decide_eq_true hs], h'.bel, fun _ => ⟨O', _, h'⟩, fun e => by cases e⟩
      · obtain ⟨_, _, _, _, hbw, _⟩ := hout
        refine ⟨false, by rw [decide_eq_false hs], h.bel.trans hbw, fun e => (by cases e), fun _ => ?_⟩
        rw [h.bri, hd, ho, bringK, hc']; simp only []; rw [if_neg hs]
end Go.Proofs.YtfkdailfcmnjlaaGreatDoor
