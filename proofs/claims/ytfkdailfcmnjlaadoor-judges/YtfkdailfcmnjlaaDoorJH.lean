/-
  What the other instructions do tw what is known: by the table of effects. What an instruction does in memory is what the plain function says. The document's does, of every instruction. The document's meets. Codes: the places of instructions, and what is known by places.
-/
import Derived.Test.YtfkdailfcmnjlaaDoorJA
import Derived.Test.YtfkdailfcmnjlaaDoorJB
import Derived.Test.YtfkdailfcmnjlaaDoorJC
import Derived.Test.YtfkdailfcmnjlaaDoorJD
import Derived.Test.YtfkdailfcmnjlaaDoorJE
import Derived.Test.YtfkdailfcmnjlaaDoorJF
import Derived.Test.YtfkdailfcmnjlaaDoorJG
set_option linter.unusedVariables false
set_option linter.unusedSimpArgs false
namespace Go.Proofs.YtfkdailfcmnjlaaDoor
open Go Go.RowKit
set_option maxRecDepth 100000
attribute [local go_sem ↓] Go.wp_at_zero Go.wp_at_succ

/-- The table of effects. -/
def effL : List Int := [0, 0, 0, 0, 0, 1, 0, 0, 2, 0, 0, 3, 0, 0, 0, 0, 0, 0, 0, 0, 0, 2, 1, 1, 2, 1, 1, 0, 0, 0, 2, 1, 2, 2, 1, 2, 1, 2, 2, 2, 2, 2, 2, 2, 2, 1, 2, 0, 0, 0, 0, 0, 0, 0, 0, 0, 0]
def Ef (w : World) : Prop := ∀ j, j < 57 → w.cell? ⟨0, j, none⟩ = some (.int .i64 (effL.getD j 0))
theorem Ef.pos {w : World} (h : Ef w) : 0 < w.heap.size := World.block_lt_of_cell? w _ (h 0 (by decide))
theorem Ef.below {w w' : World} (h : Ef w) {B : Nat} (hB : 0 < B) (hb : Below B w w') : Ef w' := fun k hk => by rw [hb.cell (p := ⟨0, k, none⟩) hB]; exact h k hk
theorem eff_takes : ∀ op, op < 19 → (effL.getD (op * 3) 0) = (((effL.getD (op * 3) 0).toNat : Nat) : Int) ∧ (effL.getD (op * 3) 0).toNat ≤ 2 := by decide
set_option maxHeartbeats 4000000 in
theorem changeO {w : World} {p : Nat} {vs vc : Value} {st c : List Int} (op : Nat) (n tw pl : Int) (hE : Ef w) (h : SetAt w p vs vc st c) (hl : st.length ≤ 4000) (ho : op < 19) (h4 : op ≠ 4) (h5 : op ≠ 5) (h6 : op ≠ 6) (h9 : op ≠ 9) :
    Calls Tryd.prog 41 #[insV op n tw pl, .pointer (some ⟨p, 0, none⟩)] w fun e w' => ChAns w p vs vc (onR (effL.getD (op * 3) 0).toNat (effL.getD (op * 3 + 1) 0) (effL.getD (op * 3 + 2) 0) st c) e w' := by
  obtain ⟨w1, hw1, H0⟩ : ∃ w1, w.alloc (.cells #[.int .i64 op, .int .i64 n, .int .i64 tw, .int .i64 pl] 105) = w1 ∧ ChStart w w1 p vs vc st c op n tw pl := ⟨_, rfl, ChStart.of h op n tw pl⟩
  unfold insV
  have H : Hid _ := H0
  obtain ⟨c0, _, _⟩ := H0.cells
  have hE1 : Ef w1 := by rw [← hw1]; exact hE.below hE.pos ((Below.refl _ w).alloc (Nat.le_refl _) _)
  have e0 := hE1 (op * 3) (by omega)
  have e1 := hE1 (op * 3 + 1) (by omega)
  have e2 := hE1 (op * 3 + 2) (by omega)
  obtain ⟨q1, q2⟩ := eff_takes op ho
  rw [q1] at e0
  have W1 := eon_any (effL.getD (op * 3) 0).toNat (effL.getD (op * 3 + 1) 0) (effL.getD (op * 3 + 2) 0) H0.set hl (by omega)
  have W2 := eon_any (effL.getD (op * 3) 0).toNat (effL.getD (op * 3 + 1) 0) (effL.getD (op * 3 + 2) 0) H0.set.drew hl (by omega)
  generalize (effL.getD (op * 3) 0).toNat = k at *
  generalize effL.getD (op * 3 + 1) 0 = t at *
  generalize effL.getD (op * 3 + 2) 0 = o at *
  have HW : Hid _ := hw1
  have b4 : ((op : Int) == 4) = false := by simp; omega
  have b5 : ((op : Int) == 5) = false := by simp; omega
  have b6 : ((op : Int) == 6) = false := by simp; omega
  have b9 : ((op : Int) == 9) = false := by simp; omega
  have hb : (0 : Int) ≤ (op : Int) ∧ (op : Int) < 19 := by omega
  clear h H0 hE hE1 q1 q2 h4 h5 h6 h9
  rw [← hw1] at e0 e1 e2 c0
  clear hw1
  generalize onR k t o st c = R at *
  go_enter Tryd.func41, Tryd.ntmps41
  go_wp2_with fail
  rw [HW.out]
  refine W1.mono ?_
  clear W1 W2 e0 e1 e2 c0
  cases R with
  | none =>
    rintro e w2 ⟨rfl, ho2⟩
    have HU : Hid _ := ho2
    clear ho2
    go_wp2
    go_ret
    exact ⟨rfl, H.out.only _ HU.out⟩
  | some x =>
    rintro e w2 ⟨rfl, ho2⟩
    have HU : Hid _ := ho2
    clear ho2
    go_wp2
    go_ret
    exact ⟨rfl, H.out.out _ _ _ HU.out⟩
/-- What an instruction does tw a stack and cells in memory. -/
def changeR (op n : Nat) (st c : List Int) : Option (List Int × List Int) :=
  if op = 4 then some (st ++ [fieldI n], c)
  else if op = 5 then (if st.getLast?.getD 0 = 0 then none else some (st.dropLast, learnL c n (st.getLast?.getD 0)))
  else if op = 6 then (if c.getD n 0 = 0 then none else some (st ++ [c.getD n 0], c))
  else if op = 9 then (if st.dropLast.getLast?.getD 0 = st.getLast?.getD 0 ∧ st.dropLast.getLast?.getD 0 ≠ 0 then some (st.dropLast.dropLast ++ [2], c) else none)
  else onR (effL.getD (op * 3) 0).toNat (effL.getD (op * 3 + 1) 0) (effL.getD (op * 3 + 2) 0) st c
theorem change_any {w : World} {p : Nat} {vs vc : Value} {st c : List Int} (op : Nat) (n tw pl : Int) (hE : Ef w) (h : SetAt w p vs vc st c) (hl : st.length ≤ 4000) (hc : c.length ≤ 256) (ho : op < 19) (hn : op = 4 ∨ op = 5 ∨ op = 6 → 0 ≤ n ∧ n ≤ 255) :
    Calls Tryd.prog 41 #[insV op n tw pl, .pointer (some ⟨p, 0, none⟩)] w fun e w' => ChAns w p vs vc (changeR op n.toNat st c) e w' := by
  unfold changeR
  by_cases h4 : op = 4
  · subst h4
    obtain ⟨q1, q2⟩ := hn (by omega)
    obtain ⟨m, rfl⟩ : ∃ m : Nat, n = m := ⟨n.toNat, by omega⟩
    rw [if_pos rfl, Int.toNat_natCast]
    exact change4 m tw pl h hl (by omega)
  rw [if_neg h4]
  by_cases h5 : op = 5
  · subst h5
    obtain ⟨q1, q2⟩ := hn (by omega)
    obtain ⟨m, rfl⟩ : ∃ m : Nat, n = m := ⟨n.toNat, by omega⟩
    rw [if_pos rfl, Int.toNat_natCast]
    exact change5 m tw pl h hl hc (by omega)
  rw [if_neg h5]
  by_cases h6 : op = 6
  · subst h6
    obtain ⟨q1, q2⟩ := hn (by omega)
    obtain ⟨m, rfl⟩ : ∃ m : Nat, n = m := ⟨n.toNat, by omega⟩
    rw [if_pos rfl, Int.toNat_natCast]
    exact change6 m tw pl h hl hc (by omega)
  rw [if_neg h6]
  by_cases h9 : op = 9
  · subst h9
    rw [if_pos rfl]
    exact change9 n tw pl h hl
  rw [if_neg h9]
  exact changeO op n tw pl hE h hl ho h4 h5 h6 h9
end Go.Proofs.YtfkdailfcmnjlaaDoor

namespace Go.Proofs.YtfkdailfcmnjlaaDoor
open Go Go.RowKit
set_option maxRecDepth 100000

/-- A stack's types as they lie in memory, the lowest first. -/
def stI (l : List Nat) : List Int := l.reverse.map fun (t : Nat) => (t : Int)
/-- What is known, as it lies in memory. -/
structure KnIs (k : Kn) (st c : List Int) : Prop where
  st : st = stI k.st
  len : c.length ≤ k.cl.length
  cl : ∀ i, c.getD i 0 = (k.cl.getD i 0 : Nat)
theorem top_nil : (stI []).getLast?.getD 0 = 0 := rfl
theorem top_cons (t : Nat) (r : List Nat) : (stI (t :: r)).getLast?.getD 0 = (t : Int) := by simp [stI]
theorem rest_cons (t : Nat) (r : List Nat) : (stI (t :: r)).dropLast = stI r := by simp [stI]
theorem push_cons (t : Nat) (r : List Nat) : stI r ++ [(t : Int)] = stI (t :: r) := by simp [stI]
/-- So many of one type are taken off a stack. -/
theorem onS_take (t : Nat) (h0 : t ≠ 0) : ∀ (n : Nat) (l : List Nat), onS n t (stI l) = if l.take n = List.replicate n t then some (stI (l.drop n)) else none
  | 0, l => by simp [onS]
  | n + 1, [] => by
    rw [onS, if_neg (by rw [top_nil]; omega), if_neg]
    intro h; have := congrArg List.length h; simp at this
  | n + 1, x :: r => by
    rw [onS, top_cons, rest_cons, onS_take t h0 n r]
    by_cases hx : x = t
    · subst hx
      rw [if_pos rfl]
      by_cases h : r.take n = List.replicate n x
      · rw [if_pos h, if_pos (by simp [List.replicate_succ, h])]; rfl
      · rw [if_neg h, if_neg]
        intro h'
        simp [List.replicate_succ] at h'
        exact h h'
    · rw [if_neg (by omega), if_neg]
      intro h'
      simp [List.replicate_succ] at h'
      exact hx h'.1
def ChIs (r : Option Kn) (q : Option (List Int × List Int)) : Prop := match r with
  | some k => ∃ st c, q = some (st, c) ∧ KnIs k st c
  | none => q = none
theorem learn_len (c : List Int) (k : Nat) (x : Int) : (learnL c k x).length = max c.length (k + 1) := by
  unfold learnL; simp; omega
theorem getD_app_zeros (c : List Int) (m i : Nat) : (c ++ List.replicate m 0).getD i 0 = c.getD i 0 := by
  rw [List.getD_eq_getElem?_getD, List.getD_eq_getElem?_getD]
  by_cases h : i < c.length
  · rw [List.getElem?_append_left h]
  · rw [List.getElem?_append_right (by omega), List.getElem?_eq_none (l := c) (by omega), List.getElem?_replicate]
    split <;> rfl
theorem learn_at (c : List Int) (k : Nat) (x : Int) (i : Nat) : (learnL c k x).getD i 0 = if i = k then x else c.getD i 0 := by
  unfold learnL
  rw [getD_setI, getD_app_zeros]
  by_cases h : i = k
  · subst h; rw [if_pos ⟨rfl, by simp; omega⟩, if_pos rfl]
  · rw [if_neg (fun a => h a.1), if_neg h]
theorem onR_takes {k : Kn} {st c : List Int} (h : KnIs k st c) (n t : Nat) (o : Option Nat) (ht : t ≠ 0) (ho : ∀ x, o = some x → x ≠ 0) (more : List Nat) (hm : more = o.toList) :
    ChIs (takesK (List.replicate n t) more k) (onR n t ((o.getD 0 : Nat) : Int) st c) := by
  subst hm
  unfold takesK onR
  rw [h.st, onS_take t ht n, List.length_replicate]
  by_cases e : k.st.take n = List.replicate n t
  · rw [if_pos e, if_pos e]
    cases o with
    | none => exact ⟨_, _, rfl, rfl, h.len, h.cl⟩
    | some x =>
      have hx := ho x rfl
      refine ⟨_, _, rfl, ?_, h.len, h.cl⟩
      simp only [Option.getD_some]
      rw [if_neg (by omega), push_cons]; rfl
  · rw [if_neg e, if_neg e]; rfl
theorem field_eq (n : Nat) : fieldI n = (fieldTy n : Nat) := by unfold fieldI fieldTy; (repeat' split) <;> rfl
theorem change_does {k : Kn} {st c : List Int} (h : KnIs k st c) (h1 : Tys1 k.st) (op n : Nat) (ho : 1 ≤ op ∧ op ≤ 18) (hn : op = 5 → n < k.cl.length) : ChIs (doesK op n k) (changeR op n st c) := by
  have e : op = 1 ∨ op = 2 ∨ op = 3 ∨ op = 4 ∨ op = 5 ∨ op = 6 ∨ op = 7 ∨ op = 8 ∨ op = 9 ∨ op = 10 ∨ op = 11 ∨ op = 12 ∨ op = 13 ∨ op = 14 ∨ op = 15 ∨ op = 16 ∨ op = 17 ∨ op = 18 := by omega
  have push : ∀ t : Nat, KnIs ⟨t :: k.st, k.cl⟩ (st ++ [(t : Int)]) c := fun t => ⟨by rw [h.st, push_cons], h.len, h.cl⟩
  rcases e with rfl | rfl | rfl | rfl | rfl | rfl | rfl | rfl | rfl | rfl | rfl | rfl | rfl | rfl | rfl | rfl | rfl | rfl
  · exact ⟨_, _, rfl, push 1⟩
  · exact ⟨_, _, rfl, push 2⟩
  · exact ⟨_, _, rfl, push 3⟩
  · exact ⟨_, _, rfl, by rw [field_eq]; exact push _⟩
  · have e : doesK 5 n k = (match k.st with
      | [] => none
      | t :: r => some ⟨r, k.cl.set n t⟩) := rfl
    have e2 : changeR 5 n st c = if st.getLast?.getD 0 = 0 then none else some (st.dropLast, learnL c n (st.getLast?.getD 0)) := rfl
    rw [e, e2, h.st]
    cases hs : k.st with
    | nil => exact if_pos rfl
    | cons t r =>
      have ht := (h1 t (by rw [hs]; simp)).1
      rw [top_cons, rest_cons, if_neg (by omega)]
      refine ⟨_, _, rfl, rfl, ?_, fun i => ?_⟩
      · rw [learn_len]; have := h.len; have := hn rfl; simp; omega
      · rw [learn_at]
        by_cases hi : i = n
        · subst hi; rw [if_pos rfl, getD_set_eq (hn rfl)]
        · rw [if_neg hi, getD_set_ne (fun e => hi e.symm)]; exact h.cl i
  · have e : doesK 6 n k = if k.cl.getD n 0 = 0 then none else some ⟨k.cl.getD n 0 :: k.st, k.cl⟩ := rfl
    have e2 : changeR 6 n st c = if c.getD n 0 = 0 then none else some (st ++ [c.getD n 0], c) := rfl
    rw [e, e2, h.cl n]
    by_cases h0 : k.cl.getD n 0 = 0
    · rw [if_pos h0, if_pos (by omega)]; rfl
    · rw [if_neg h0, if_neg (by omega)]
      exact ⟨_, _, rfl, push _⟩
  · exact onR_takes h 2 1 (some 1) (by decide) (by simp) [1] rfl
  · exact onR_takes h 2 1 (some 1) (by decide) (by simp) [1] rfl
  · have e2 : changeR 9 n st c = if st.dropLast.getLast?.getD 0 = st.getLast?.getD 0 ∧ st.dropLast.getLast?.getD 0 ≠ 0 then some (st.dropLast.dropLast ++ [2], c) else none := rfl
    have e : doesK 9 n k = (match k.st with
      | x :: y :: r => if x = y then some ⟨2 :: r, k.cl⟩ else none
      | _ => none) := rfl
    rw [e, e2, h.st]
    match hs : k.st with
    | [] => exact if_neg (by simp [stI])
    | [x] => exact if_neg (by simp [stI])
    | x :: y :: r =>
      have hx := (h1 x (by rw [hs]; simp)).1
      have hy := (h1 y (by rw [hs]; simp)).1
      rw [rest_cons, top_cons, top_cons, rest_cons]
      show ChIs (if x = y then some ⟨2 :: r, k.cl⟩ else none) _
      by_cases hxy : x = y
      · rw [if_pos hxy, if_pos ⟨by omega, by omega⟩]
        exact ⟨_, _, rfl, by rw [show (2 : Int) = ((2 : Nat) : Int) from rfl, push_cons], h.len, h.cl⟩
      · rw [if_neg hxy, if_neg (fun a => hxy (by omega))]; rfl
  · exact onR_takes h 2 1 (some 2) (by decide) (by simp) [2] rfl
  · exact onR_takes h 2 1 (some 2) (by decide) (by simp) [2] rfl
  · exact onR_takes h 1 2 (some 2) (by decide) (by simp) [2] rfl
  · exact onR_takes h 2 2 (some 2) (by decide) (by simp) [2] rfl
  · exact onR_takes h 2 2 (some 2) (by decide) (by simp) [2] rfl
  · exact onR_takes h 1 2 none (by decide) (by simp) [] rfl
  · exact ⟨_, _, rfl, h⟩
  · exact ⟨_, _, rfl, h⟩
  · exact ⟨_, _, rfl, h⟩
/-- Types stay types. -/
theorem does_tys {op n : Nat} {k k' : Kn} (ho : 1 ≤ op ∧ op ≤ 18) (h1 : Tys1 k.st) (h2 : Tys k.cl) (h : doesK op n k = some k') : Tys1 k'.st ∧ Tys k'.cl ∧ k'.cl.length = k.cl.length := by
  have tk : ∀ {want more : List Nat}, Tys1 more → takesK want more k = some k' → Tys1 k'.st ∧ Tys k'.cl ∧ k'.cl.length = k.cl.length := fun {want more} hm he => by
    obtain ⟨_, rfl⟩ := takes_st he
    exact ⟨fun t ht => by
      rcases List.mem_append.1 ht with ht | ht
      · exact hm t ht
      · exact h1 t (List.mem_of_mem_drop ht), h2, rfl⟩
  have ps : ∀ t : Nat, 1 ≤ t → t < 4 → some ⟨t :: k.st, k.cl⟩ = some k' → Tys1 k'.st ∧ Tys k'.cl ∧ k'.cl.length = k.cl.length := fun t ha hb he => by
    obtain rfl := Option.some.inj he
    exact ⟨fun x hx => by
      rcases List.mem_cons.1 hx with rfl | hx
      · exact ⟨ha, hb⟩
      · exact h1 x hx, h2, rfl⟩
  have one : ∀ x : Nat, 1 ≤ x → x < 4 → Tys1 [x] := fun x ha hb t ht => by simp at ht; subst ht; exact ⟨ha, hb⟩
  have e : op = 1 ∨ op = 2 ∨ op = 3 ∨ op = 4 ∨ op = 5 ∨ op = 6 ∨ op = 7 ∨ op = 8 ∨ op = 9 ∨ op = 10 ∨ op = 11 ∨ op = 12 ∨ op = 13 ∨ op = 14 ∨ op = 15 ∨ op = 16 ∨ op = 17 ∨ op = 18 := by omega
  have same : some k = some k' → Tys1 k'.st ∧ Tys k'.cl ∧ k'.cl.length = k.cl.length := fun h => by obtain rfl := Option.some.inj h; exact ⟨h1, h2, rfl⟩
  rcases e with rfl | rfl | rfl | rfl | rfl | rfl | rfl | rfl | rfl | rfl | rfl | rfl | rfl | rfl | rfl | rfl | rfl | rfl
  · exact ps 1 (by omega) (by omega) h
  · exact ps 2 (by omega) (by omega) h
  · exact ps 3 (by omega) (by omega) h
  · exact ps (fieldTy n) (by unfold fieldTy; (repeat' split) <;> omega) (by unfold fieldTy; (repeat' split) <;> omega) h
  · have e : doesK 5 n k = (match k.st with
      | [] => none
      | t :: r => some ⟨r, k.cl.set n t⟩) := rfl
    rw [e] at h
    split at h
    · cases h
    · rename_i t r hs
      obtain rfl := Option.some.inj h
      refine ⟨fun x hx => h1 x (by rw [hs]; simp [hx]), fun x hx => ?_, by simp⟩
      rcases List.mem_or_eq_of_mem_set hx with hx | rfl
      · exact h2 x hx
      · exact (h1 x (by rw [hs]; simp)).2
  · have e : doesK 6 n k = if k.cl.getD n 0 = 0 then none else some ⟨k.cl.getD n 0 :: k.st, k.cl⟩ := rfl
    rw [e] at h
    by_cases h0 : k.cl.getD n 0 = 0
    · rw [if_pos h0] at h; cases h
    · rw [if_neg h0] at h
      refine ps (k.cl.getD n 0) (by omega) ?_ h
      rw [List.getD_eq_getElem?_getD]
      cases e : k.cl[n]? with
      | none => decide
      | some v => exact h2 v (List.mem_of_getElem? e)
  · exact tk (one 1 (by omega) (by omega)) h
  · exact tk (one 1 (by omega) (by omega)) h
  · have e : doesK 9 n k = (match k.st with
      | x :: y :: r => if x = y then some ⟨2 :: r, k.cl⟩ else none
      | _ => none) := rfl
    rw [e] at h
    split at h
    · rename_i x y r hs
      split at h
      · obtain rfl := Option.some.inj h
        exact ⟨fun t ht => by
          rcases List.mem_cons.1 ht with rfl | ht
          · omega
          · exact h1 t (by rw [hs]; simp [ht]), h2, rfl⟩
      · cases h
    · cases h
  · exact tk (one 2 (by omega) (by omega)) h
  · exact tk (one 2 (by omega) (by omega)) h
  · exact tk (one 2 (by omega) (by omega)) h
  · exact tk (one 2 (by omega) (by omega)) h
  · exact tk (one 2 (by omega) (by omega)) h
  · exact tk (fun t ht => by simp at ht) h
  · exact same h
  · exact same h
  · exact same h
theorem metL_len2 (c d : List Int) : (metL c d c.length).length = c.length := metL_len _ _ _
/-- What two ways know, in memory. -/
theorem met_is {a b : Kn} {st c st2 c2 : List Int} (h : KnIs a st c) (h2 : KnIs b st2 c2) (hl : a.cl.length = b.cl.length) : KnIs ⟨a.st, meetC a.cl b.cl⟩ st (metL c c2 c.length) := by
  refine ⟨h.st, by rw [metL_len]; have := h.len; simp [meetC]; omega, fun i => ?_⟩
  show _ = (((meetC a.cl b.cl).getD i 0 : Nat) : Int)
  rw [meet_at]
  by_cases hi : i < c.length
  · have hlen := h.len
    rw [metL_at _ _ _ hi, if_pos hi, h.cl i, h2.cl i, if_pos (c := i < a.cl.length ∧ i < b.cl.length) ⟨by omega, by omega⟩]
    by_cases e : a.cl.getD i 0 = b.cl.getD i 0
    · rw [if_pos e, if_pos (by omega)]
    · rw [if_neg e, if_neg (by omega)]; rfl
  · have e0 := h.cl i
    rw [List.getD_eq_getElem?_getD, List.getElem?_eq_none (by omega)] at e0
    have e1 : a.cl.getD i 0 = 0 := by simp only [Option.getD_none] at e0; omega
    rw [List.getD_eq_getElem?_getD, List.getElem?_eq_none (by rw [metL_len]; omega), e1]
    simp
end Go.Proofs.YtfkdailfcmnjlaaDoor

namespace Go.Proofs.YtfkdailfcmnjlaaDoor
open Go Go.RowKit
set_option maxRecDepth 100000

theorem ins_op {b : List UInt8} {x : Ins} (h : InsOK b x) : byteAt b x.pl = x.op := by have := h.here; rw [this]; rfl
theorem ins_two {b : List UInt8} {x : Ins} (h : InsOK b x) (hs : sizeOp x.op = 2) : x.n = (byteAt b (x.pl + 1) : Int) := by
  have hn : x.n = numAt b x.op x.pl := by have := h.here; rw [this]; rfl
  rw [hn]; unfold numAt
  rw [if_neg (by intro e; rw [e] at hs; simp [sizeOp] at hs), hs]
  simp [beVal]
theorem ins_three {b : List UInt8} {x : Ins} (h : InsOK b x) (hs : sizeOp x.op = 3) : x.n = (byteAt b (x.pl + 1) * 256 + byteAt b (x.pl + 2) : Int) := by
  have hn : x.n = numAt b x.op x.pl := by have := h.here; rw [this]; rfl
  rw [hn]; unfold numAt
  rw [if_neg (by intro e; rw [e] at hs; simp [sizeOp] at hs), hs]
  simp [beVal]
theorem does_any {b : List UInt8} {x : Ins} {k : Kn} (hx : InsOK b x) (hb : b.length ≤ 4000) (hk : k.st.length ≤ 100) (hc : k.cl.length = byteAt b 2) (h1 : Tys1 k.st) (h2 : Tys k.cl) (w : World) :
    Calls Tryd.prog 14 #[S b, .int .i64 (x.pl : Nat), knV k] w fun e w' => DoesAns (doesK x.op x.n.toNat k) e ∧ Below w.heap.size w w' := by
  have hN := num_ok hx
  have hc5 : k.cl.length ≤ 255 := by have := byte_lt b 2; omega
  have hop0 := ins_op hx
  have hf := hx.fits
  have hsz : 0 < sizeOp x.op := Nat.pos_of_ne_zero hx.size
  have ha : x.pl < (ByteArray.mk b.toArray).size := by show x.pl < b.length; omega
  have hop : ((ByteArray.mk b.toArray)[x.pl]).toNat = x.op := (ba_at b x.pl ha).trans hop0
  have h2n : sizeOp x.op = 2 → ∃ ha1 : x.pl + 1 < (ByteArray.mk b.toArray).size, ((ByteArray.mk b.toArray)[x.pl + 1]).toNat = x.n.toNat := fun hs => by
    have hn := ins_two hx hs
    refine ⟨by show x.pl + 1 < b.length; omega, ?_⟩
    rw [ba_at b (x.pl + 1) (by show x.pl + 1 < b.length; omega), hn]; rfl
  have hbd : sizeOp x.op = 2 → (x.n.toNat : Int) ≤ boundOp x.op (byteAt b 2) := fun hs => by
    obtain ⟨q1, q2, _⟩ := hN.two hs
    omega
  obtain ⟨o1, o2⟩ := hN.op
  have e : x.op = 1 ∨ x.op = 2 ∨ x.op = 3 ∨ x.op = 4 ∨ x.op = 5 ∨ x.op = 6 ∨ x.op = 7 ∨ x.op = 8 ∨ x.op = 9 ∨ x.op = 10 ∨ x.op = 11 ∨ x.op = 12 ∨ x.op = 13 ∨ x.op = 14 ∨ x.op = 15 ∨ x.op = 16 ∨ x.op = 17 ∨ x.op = 18 := by omega
  rcases e with e | e | e | e | e | e | e | e | e | e | e | e | e | e | e | e | e | e
  · rw [e] at hop ⊢; exact does1 hb hk hc5 h1 h2 ha hop w
  · rw [e] at hop ⊢; exact does2 hb hk hc5 h1 h2 ha hop w
  · rw [e] at hop ⊢; exact does3 hb hk hc5 h1 h2 ha hop w
  · rw [e] at hop h2n hbd ⊢
    obtain ⟨ha1, hn⟩ := h2n rfl
    have hbd := hbd rfl
    have : boundOp 4 (byteAt b 2) = 8 := rfl
    exact does4 hb hk hc5 h1 h2 ha hop ha1 hn (by omega) w
  · rw [e] at hop h2n hbd ⊢
    obtain ⟨ha1, hn⟩ := h2n rfl
    have hbd := hbd rfl
    have : boundOp 5 (byteAt b 2) = (byteAt b 2 : Int) - 1 := rfl
    exact does5 hb hk hc5 h1 h2 ha hop ha1 hn (by omega) w
  · rw [e] at hop h2n hbd ⊢
    obtain ⟨ha1, hn⟩ := h2n rfl
    have hbd := hbd rfl
    have : boundOp 6 (byteAt b 2) = (byteAt b 2 : Int) - 1 := rfl
    exact does6 hb hk hc5 h1 h2 ha hop ha1 hn (by omega) w
  · rw [e] at hop ⊢; exact does7 hb hk hc5 h1 h2 ha hop w
  · rw [e] at hop ⊢; exact does8 hb hk hc5 h1 h2 ha hop w
  · rw [e] at hop ⊢; exact does9 hb hk hc5 h1 h2 ha hop w
  · rw [e] at hop ⊢; exact does10 hb hk hc5 h1 h2 ha hop w
  · rw [e] at hop ⊢; exact does11 hb hk hc5 h1 h2 ha hop w
  · rw [e] at hop ⊢; exact does12 hb hk hc5 h1 h2 ha hop w
  · rw [e] at hop ⊢; exact does13 hb hk hc5 h1 h2 ha hop w
  · rw [e] at hop ⊢; exact does14 hb hk hc5 h1 h2 ha hop w
  · rw [e] at hop ⊢; exact does15 hb hk hc5 h1 h2 ha hop w
  · rw [e] at hop ⊢; exact does16 hb hk hc5 h1 h2 ha hop w
  · rw [e] at hop ⊢; exact does17 hb hk hc5 h1 h2 ha hop w
  · rw [e] at hop ⊢; exact does18 hb hk hc5 h1 h2 ha hop w
end Go.Proofs.YtfkdailfcmnjlaaDoor

namespace Go.Proofs.YtfkdailfcmnjlaaDoor
open Go Go.RowKit
set_option maxRecDepth 100000
attribute [local go_sem ↓] Go.wp_at_zero Go.wp_at_succ

theorem below_three (w : World) (o1 o2 o3 : Obj) : Below w.heap.size w (((w.alloc o1).alloc o2).alloc o3) := (((Below.refl _ _).alloc (Nat.le_refl _) _).alloc (by simp) _).alloc (by simp; omega) _
set_option maxHeartbeats 4000000 in
theorem meets_new (x y : List UInt8) (k : Kn) (w : World) : Calls Tryd.prog 16 #[.agg #[.bool false, S x, S y], knV k] w fun e w' => e = .returned (.tuple #[knV k, .bool true]) ∧ Below w.heap.size w w' := by
  unfold knV
  have HB : Hid (∀ o1 o2 o3, Below w.heap.size w (((w.alloc o1).alloc o2).alloc o3)) := fun o1 o2 o3 => below_three w o1 o2 o3
  go_enter Tryd.func16, Tryd.ntmps16
  go_wp2
  refine bodyPost_ret (v := .tuple #[.agg #[.bool true, S (stS k.st), S (clS k.cl)], .bool true]) (by simp [results, Tryd.results16, go_sem]) rfl ?_
  exact ⟨rfl, HB.out _ _ _⟩
def metB (x y : List UInt8) (i : Nat) : List UInt8 := (List.range i).map fun j => if x.getD j 0 = y.getD j 0 then x.getD j 0 else 45
theorem metB_succ (x y : List UInt8) (i : Nat) : metB x y (i + 1) = metB x y i ++ [if x.getD i 0 = y.getD i 0 then x.getD i 0 else 45] := by simp [metB, List.range_succ]
theorem metB_len (x y : List UInt8) (i : Nat) : (metB x y i).length = i := by simp [metB]
theorem met_cl {a b : List Nat} (ha : Tys a) (hb : Tys b) (hl : a.length = b.length) : metB (clS a) (clS b) a.length = clS (meetC a b) := by
  apply List.ext_getElem?
  intro i
  by_cases hi : i < a.length
  · have hib : i < b.length := by omega
    rw [metB, List.getElem?_map, List.getElem?_range hi, Option.map_some, cl_getD a hi, cl_getD b hib]
    have ta := ha.getD i
    have tb := hb.getD i
    simp only [clS, meetC, List.getElem?_map, List.getElem?_zipWith, List.getElem?_eq_getElem hi, List.getElem?_eq_getElem hib, Option.map_some]
    rw [List.getD_eq_getElem?_getD, List.getElem?_eq_getElem hi] at ta ⊢
    rw [List.getD_eq_getElem?_getD, List.getElem?_eq_getElem hib] at tb ⊢
    simp only [Option.getD_some] at *
    by_cases he : a[i] = b[i]
    · rw [he]; simp
    · rw [if_neg (fun h => he (tyC_inj ta tb h))]; simp [he, tyC]
  · rw [List.getElem?_eq_none (by rw [metB_len]; omega), List.getElem?_eq_none (by rw [clS_len]; simp [meetC]; omega)]
set_option maxHeartbeats 4000000 in
theorem meets_gen (A cA B cB : List UInt8) (hl : cA.length = cB.length) (hc : cA.length ≤ 255) (w : World) : Calls Tryd.prog 16 #[.agg #[.bool true, S A, S cA], .agg #[.bool true, S B, S cB]] w fun e w' => e = .returned (.tuple #[.agg #[.bool true, S A, S (metB cA cB cA.length)], .bool (decide (A = B))]) ∧ Below w.heap.size w w' := by
  obtain ⟨w2, hw2⟩ : ∃ w2, ((w.alloc (.cells #[.bool true, S A, S cA] 58)).alloc (.cells #[.bool true, S B, S cB] 58)).alloc (.cells #[.bool false, .string ⟨#[]⟩, .string ⟨#[]⟩] 58) = w2 := ⟨_, rfl⟩
  have hb2 : Below w.heap.size w w2 := by rw [← hw2]; exact below_three w _ _ _
  have k1 : w2.heap[w.heap.size]? = some (.cells #[.bool true, S A, S cA] 58 (0, 0)) := by
    rw [← hw2]; exact (Below.heap_alloc _ _ _ (by simp; omega)).trans ((Below.heap_alloc _ _ _ (by simp)).trans (heap_alloc_new w _))
  have k2 : w2.heap[w.heap.size + 1]? = some (.cells #[.bool true, S B, S cB] 58 (0, 0)) := by
    rw [← hw2]
    have h := heap_alloc_new (w.alloc (.cells #[.bool true, S A, S cA] 58)) (.cells #[.bool true, S B, S cB] 58)
    rw [World.size_alloc] at h
    exact (Below.heap_alloc _ _ _ (by simp)).trans h
  have k3 : w2.heap[w.heap.size + 1 + 1]? = some (.cells #[.bool false, .string ⟨#[]⟩, .string ⟨#[]⟩] 58 (0, 0)) := by
    rw [← hw2]
    have h := heap_alloc_new ((w.alloc (.cells #[.bool true, S A, S cA] 58)).alloc (.cells #[.bool true, S B, S cB] 58)) (.cells #[.bool false, .string ⟨#[]⟩, .string ⟨#[]⟩] 58)
    rw [World.size_alloc, World.size_alloc] at h
    exact h
  have HW : Hid _ := hw2
  have HK : Hid (∀ W, Below w2.heap.size w2 W → W.heap[w.heap.size]? = some (.cells #[.bool true, S A, S cA] 58 (0, 0)) ∧ W.heap[w.heap.size + 1]? = some (.cells #[.bool true, S B, S cB] 58 (0, 0)) ∧ W.heap[w.heap.size + 1 + 1]? = some (.cells #[.bool false, .string ⟨#[]⟩, .string ⟨#[]⟩] 58 (0, 0)) ∧ Below w.heap.size w W) := fun W h => ⟨(h.block _ (lt_of_get k1)).trans k1, (h.block _ (lt_of_get k2)).trans k2, (h.block _ (lt_of_get k3)).trans k3, hb2.trans (h.mono hb2.size)⟩
  clear hw2 hb2 k1 k2 k3
  go_enter Tryd.func16, Tryd.ntmps16
  go_wp2_with fail
  rw [HW.out]
  go_loopw [6, 7] (fun sv av wr => ∃ i : Nat, i ≤ cA.length ∧ av = .int .i64 i ∧ sv = S (metB cA cB i) ∧ Hid (Below w2.heap.size w2 wr)) (fun _ av _ => cA.length - (intOf av).toNat)
  case atStart => exact ⟨0, by omega, rfl, rfl, Below.refl _ _⟩
  case round =>
    obtain ⟨i, hi, rfl, rfl, HI⟩ := hrel
    obtain ⟨b1, b2, b3, b4⟩ := HK.out _ HI.out
    have c2 : wr.cell? ⟨w.heap.size, 2, none⟩ = some (S cA) := cell_of_row wr _ 2 _ _ _ b1
    have d2 : wr.cell? ⟨w.heap.size + 1, 2, none⟩ = some (S cB) := cell_of_row wr _ 2 _ _ _ b2
    by_cases hlt : i < cA.length
    · have hsa : i < (ByteArray.mk cA.toArray).size := hlt
      have hsb : i < (ByteArray.mk cB.toArray).size := by show i < cB.length; omega
      have pa := ba_at cA i hsa
      have pb := ba_at cB i hsb
      have HS := metB_succ cA cB i
      have HI2 : Hid (Below w2.heap.size w2 wr.drew) := HI.out.drew
      have hsl : (0 : Int) ≤ (i : Int) ∧ (i : Int) ≤ (i : Int) + 1 ∧ (i : Int) + 1 ≤ (cA.length : Int) := by omega
      have hex : ({ data := cA.toArray } : ByteArray).extract i (i + 1) = ⟨(cut cA i (i + 1)).toArray⟩ := cut_ex _ _ _
      have hcu : cut cA i (i + 1) = [cA.getD i 0] := by
        unfold cut
        apply List.ext_getElem?
        intro j
        rcases j with _ | j
        · simp [List.getElem?_drop, List.getD_eq_getElem?_getD, List.getElem?_eq_getElem hlt]
        · simp; omega
      rw [hcu] at hex
      have hml := metB_len cA cB i
      generalize hx : cA.getD i 0 = x at *
      generalize hy : cB.getD i 0 = y at *
      generalize metB cA cB i = m at *
      clear HK b1 b2 b3 b4 HW
      by_cases hxy : x = y
      · subst hxy
        rw [if_pos rfl] at HS
        have HS2 : Hid (S (metB cA cB (i + 1)) = .string (BA m ++ BA [x])) := by show _ = _; rw [HS, app_ba]
        clear HS
        go_wp2_with fail
        go_region
        all_goals go_wp2
        all_goals exact ⟨⟨i + 1, by omega, by go_num, HS2.out.symm, HI2.out⟩, by simp [intOf]; omega⟩
      · rw [if_neg hxy] at HS
        have HS2 : Hid (S (metB cA cB (i + 1)) = .string (BA m ++ BA [45])) := by show _ = _; rw [HS, app_ba]
        have hne : ¬ (x.toNat = y.toNat) := fun h => hxy (UInt8.toNat_inj.1 h)
        have hne2 : ((x.toNat : Int) == (y.toNat : Int)) = false := by simp; omega
        have hne3 : ¬ ((x.toNat : Int) = (y.toNat : Int)) := by omega
        clear HS
        go_wp2_with fail
        go_region
        all_goals go_wp2
        all_goals exact ⟨⟨i + 1, by omega, by go_num, HS2.out.symm, HI2.out⟩, by simp [intOf]; omega⟩
    · obtain rfl : i = cA.length := by omega
      have c1 : wr.cell? ⟨w.heap.size, 1, none⟩ = some (S A) := cell_of_row wr _ 1 _ _ _ b1
      have d1 : wr.cell? ⟨w.heap.size + 1, 1, none⟩ = some (S B) := cell_of_row wr _ 1 _ _ _ b2
      have r0 : wr.cell? ⟨w.heap.size + 1 + 1, 0, none⟩ = some (.bool false) := cell_of_row wr _ 0 _ _ _ b3
      have r1 : wr.cell? ⟨w.heap.size + 1 + 1, 1, none⟩ = some (.string ⟨#[]⟩) := cell_of_row wr _ 1 _ _ _ b3
      have r2 : wr.cell? ⟨w.heap.size + 1 + 1, 2, none⟩ = some (.string ⟨#[]⟩) := cell_of_row wr _ 2 _ _ _ b3
      have gf : ∀ o, wr.frozen? ⟨w.heap.size + 1 + 1, o, none⟩ = false := fun o => by simp [World.frozen?, b3]
      have g0 := gf 0
      have g1 := gf 1
      have g2 := gf 2
      have HB : Hid (∀ v0 v1 v2, Below w.heap.size w (((wr.setCell ⟨w.heap.size + 1 + 1, 0, none⟩ v0).setCell ⟨w.heap.size + 1 + 1, 1, none⟩ v1).setCell ⟨w.heap.size + 1 + 1, 2, none⟩ v2)) := fun v0 v1 v2 => ((b4.setCell (by simp only []; omega) _).setCell (by simp only []; omega) _).setCell (by simp only []; omega) _
      generalize hm : metB cA cB cA.length = m at *
      have HM : Hid (metB cA cB cA.length = m) := hm
      have HL : Hid (cA.length = cB.length) := hl
      clear HK b1 b2 b3 b4 HW gf HI hm
      by_cases hAB : A = B
      · subst hAB
        go_wp2_with fail
        go_region
        all_goals go_wp2
        all_goals refine bodyPost_ret (v := .tuple #[.agg #[.bool true, S A, S m], .bool true]) (by simp [results, Tryd.results16, go_sem, cell_set_same, cell_set_off, some_set, r0, r1, r2]) rfl ?_
        all_goals exact ⟨by rw [← HL.out, HM.out]; try simp, (HB.out _ _ _).drew⟩
      · have hne : ¬ ((⟨A.toArray⟩ : ByteArray) = ⟨B.toArray⟩) := fun h => hAB (by injection h with h; simpa using congrArg Array.toList h)
        go_wp2_with fail
        go_region
        all_goals go_wp2
        all_goals refine bodyPost_ret (v := .tuple #[.agg #[.bool true, S A, S m], .bool false]) (by simp [results, Tryd.results16, go_sem, cell_set_same, cell_set_off, some_set, r0, r1, r2, hAB]) rfl ?_
        all_goals exact ⟨by rw [HM.out]; simp [hAB], (HB.out _ _ _).drew⟩
theorem meets_old {a k : Kn} (h1 : Tys1 a.st) (h2 : Tys a.cl) (h3 : Tys1 k.st) (h4 : Tys k.cl) (hl : a.cl.length = k.cl.length) (hc : a.cl.length ≤ 255) (w : World) : Calls Tryd.prog 16 #[knV a, knV k] w fun e w' => e = .returned (.tuple #[knV ⟨a.st, meetC a.cl k.cl⟩, .bool (decide (a.st = k.st))]) ∧ Below w.heap.size w w' := by
  have h := meets_gen (stS a.st) (clS a.cl) (stS k.st) (clS k.cl) (by rw [clS_len, clS_len]; exact hl) (by rw [clS_len]; exact hc) w
  refine h.mono fun e w' ⟨he, hb⟩ => ⟨?_, hb⟩
  rw [he, clS_len, met_cl h2 h4 hl]
  have e : decide (stS a.st = stS k.st) = decide (a.st = k.st) := by
    by_cases hs : a.st = k.st
    · rw [hs]; simp
    · rw [decide_eq_false hs, decide_eq_false (fun h => hs (stS_inj h1 h3 h))]
  rw [e]; rfl
end Go.Proofs.YtfkdailfcmnjlaaDoor

namespace Go.Proofs.YtfkdailfcmnjlaaDoor
open Go Go.RowKit
set_option maxRecDepth 100000

/-- The places to which an instruction leads. -/
def leadsP (x : Ins) : List Nat :=
  if x.op = 15 then [x.pl + 3, x.pl + 3 + x.n.toNat] else if x.op = 16 then [x.pl + 3 + x.n.toNat] else if x.op = 17 ∨ x.op = 18 then [] else [x.pl + sizeOp x.op]
theorem leadsP_len (x : Ins) : (leadsP x).length ≤ 2 := by unfold leadsP; (repeat' split) <;> simp
/-- Does an instruction begin there? -/
def beg (ins : List Ins) (p : Nat) : Bool := ins.any fun y => y.pl == p
theorem beg_iff {ins : List Ins} {p : Nat} : beg ins p = true ↔ ∃ j, j < ins.length ∧ (ins.getD j noIns).pl = p := by
  unfold beg
  rw [List.any_eq_true]
  constructor
  · rintro ⟨y, hy, e⟩
    obtain ⟨j, hj, rfl⟩ := List.getElem_of_mem hy
    exact ⟨j, hj, by rw [List.getD_eq_getElem?_getD, List.getElem?_eq_getElem hj]; simpa using e⟩
  · rintro ⟨j, hj, e⟩
    exact ⟨_, getD_ins hj, by simpa using e⟩
theorem beg_at {ins : List Ins} {j : Nat} (h : j < ins.length) : beg ins (ins.getD j noIns).pl = true := beg_iff.2 ⟨j, h, rfl⟩
theorem code_size {b : List UInt8} {ins : List Ins} (h : CodeOK b ins) : ∀ x ∈ ins, sizeOp x.op ≠ 0 := fun x hx => (h.each x hx).size
theorem pl_inc {b : List UInt8} {ins : List Ins} (h : CodeOK b ins) {i j : Nat} (hij : i < j) (hj : j < ins.length) : (ins.getD i noIns).pl < (ins.getD j noIns).pl := by
  have h1 := behind_inc (code_size h) h.order i j hij hj
  have h2 := code_size h _ (getD_ins (ins := ins) (i := i) (by omega))
  omega
theorem pl_inj {b : List UInt8} {ins : List Ins} (h : CodeOK b ins) {i j : Nat} (hi : i < ins.length) (hj : j < ins.length) (e : (ins.getD i noIns).pl = (ins.getD j noIns).pl) : i = j := by
  rcases Nat.lt_trichotomy i j with g | g | g
  · have := pl_inc h g hj; omega
  · exact g
  · have := pl_inc h g hi; omega
theorem pl_lt {b : List UInt8} {ins : List Ins} (h : CodeOK b ins) {i : Nat} (hi : i < ins.length) : 3 ≤ (ins.getD i noIns).pl ∧ (ins.getD i noIns).pl < b.length := (behind_le (code_size h) h.order).2 i hi
theorem behind_next {e : Nat} : ∀ {ins : List Ins} {a : Nat}, Behind a e ins → ∀ i, i < ins.length → (i + 1 < ins.length → (ins.getD (i + 1) noIns).pl = (ins.getD i noIns).pl + sizeOp (ins.getD i noIns).op) ∧ (¬ i + 1 < ins.length → (ins.getD i noIns).pl + sizeOp (ins.getD i noIns).op = e)
  | [], a, h, i, hi => by simp at hi
  | x :: r, a, h, i, hi => by
    obtain ⟨h1, h2⟩ := h
    cases i with
    | succ i =>
      have := behind_next h2 i (by simpa using hi)
      simp only [List.getD_cons_succ, List.length_cons] at *
      exact ⟨fun g => this.1 (by omega), fun g => this.2 (by omega)⟩
    | zero =>
      cases r with
      | nil =>
        refine ⟨fun g => by simp at g, fun _ => ?_⟩
        have h2 : a + sizeOp x.op = e := h2
        simp; omega
      | cons y s =>
        refine ⟨fun _ => ?_, fun g => by simp at g⟩
        have h3 : y.pl = a + sizeOp x.op := h2.1
        simp; omega
/-- What a place that is led to is, by the order of the instructions. -/
def PlIs (b : List UInt8) (ins : List Ins) (p : Nat) : Option Nat → Prop
  | some j => j < ins.length ∧ (ins.getD j noIns).pl = p
  | none => b.length ≤ p ∨ beg ins p = false
theorem next_is {b : List UInt8} {ins : List Ins} (h : CodeOK b ins) {i : Nat} (hi : i < ins.length) : PlIs b ins ((ins.getD i noIns).pl + sizeOp (ins.getD i noIns).op) (if i + 1 < ins.length then some (i + 1) else none) := by
  obtain ⟨h1, h2⟩ := behind_next h.order i hi
  split
  · rename_i g; exact ⟨g, h1 g⟩
  · rename_i g; exact .inl (by rw [h2 g]; exact Nat.le_refl _)
theorem jump_is (b : List UInt8) (ins : List Ins) (x : Ins) : PlIs b ins (x.pl + 3 + x.n.toNat) (jumpTo ins x) := by
  cases e : jumpTo ins x with
  | none =>
    refine .inr ?_
    unfold jumpTo at e
    rw [List.findIdx?_eq_none_iff] at e
    unfold beg
    rw [List.any_eq_false]
    intro y hy
    have := e y hy
    simpa using this
  | some j =>
    unfold jumpTo at e
    rw [List.findIdx?_eq_some_iff_getElem] at e
    obtain ⟨hj, hp, _⟩ := e
    refine ⟨hj, ?_⟩
    rw [List.getD_eq_getElem?_getD, List.getElem?_eq_getElem hj]
    simpa using hp
theorem leads_is {b : List UInt8} {ins : List Ins} (h : CodeOK b ins) {i : Nat} (hi : i < ins.length) : (leadsK ins i (ins.getD i noIns)).length = (leadsP (ins.getD i noIns)).length ∧ ∀ m, m < (leadsP (ins.getD i noIns)).length → PlIs b ins ((leadsP (ins.getD i noIns)).getD m 0) ((leadsK ins i (ins.getD i noIns)).getD m none) := by
  have hn := next_is h hi
  have hj := jump_is b ins (ins.getD i noIns)
  generalize ins.getD i noIns = x at *
  unfold leadsK leadsP
  by_cases h15 : x.op = 15
  · rw [if_pos h15, if_pos h15]
    have e : sizeOp x.op = 3 := by rw [h15]; rfl
    rw [e] at hn
    refine ⟨rfl, fun m hm => ?_⟩
    have : m = 0 ∨ m = 1 := by simp at hm; omega
    rcases this with rfl | rfl
    · exact hn
    · exact hj
  rw [if_neg h15, if_neg h15]
  by_cases h16 : x.op = 16
  · rw [if_pos h16, if_pos h16]
    refine ⟨rfl, fun m hm => ?_⟩
    obtain rfl : m = 0 := by simp at hm; omega
    exact hj
  rw [if_neg h16, if_neg h16]
  by_cases h17 : x.op = 17 ∨ x.op = 18
  · rw [if_pos h17, if_pos h17]
    exact ⟨rfl, fun m hm => by simp at hm⟩
  rw [if_neg h17, if_neg h17]
  refine ⟨rfl, fun m hm => ?_⟩
  obtain rfl : m = 0 := by simp at hm; omega
  exact hn
/-- What is known, by places and by instructions. -/
structure PlC (b : List UInt8) (ins : List Ins) (kl come : List (Option Kn)) : Prop where
  plen : kl.length = b.length
  clen : come.length = ins.length
  same : ∀ i, i < ins.length → kl.getD (ins.getD i noIns).pl none = come.getD i none
theorem PlC.set {b : List UInt8} {ins : List Ins} {kl come : List (Option Kn)} (h : PlC b ins kl come) (hc : CodeOK b ins) {p j : Nat} (hj : j < ins.length ∧ (ins.getD j noIns).pl = p) (v : Option Kn) : PlC b ins (kl.set p v) (come.set j v) := by
  obtain ⟨hj, rfl⟩ := hj
  refine ⟨by rw [List.length_set]; exact h.plen, by rw [List.length_set]; exact h.clen, fun i hi => ?_⟩
  by_cases e : j = i
  · subst e
    rw [getD_set_eq (by rw [h.plen]; exact (pl_lt hc hj).2), getD_set_eq (by rw [h.clen]; exact hj)]
  · rw [getD_set_ne (fun g => e (pl_inj hc hj hi g)), getD_set_ne e]
    exact h.same i hi
/-- One place more on a way. -/
theorem bring_step {b : List UInt8} {ins : List Ins} {kl come : List (Option Kn)} (h : PlC b ins kl come) (hc : CodeOK b ins) {p : Nat} {o : Option Nat} (ho : PlIs b ins p o) (k : Kn) (r : List (Option Nat)) :
    (o = none → (b.length ≤ p ∨ beg ins p = false) ∧ bringK come k (o :: r) = none) ∧
    (∀ j, o = some j → p < b.length ∧ beg ins p = true ∧ j < ins.length ∧ (kl.getD p none = none → bringK come k (o :: r) = bringK (come.set j (some k)) k r ∧ PlC b ins (kl.set p (some k)) (come.set j (some k))) ∧
      (∀ a, kl.getD p none = some a → come.getD j none = some a ∧ (a.st ≠ k.st → bringK come k (o :: r) = none) ∧ (a.st = k.st → bringK come k (o :: r) = bringK (come.set j (some ⟨a.st, meetC a.cl k.cl⟩)) k r ∧ PlC b ins (kl.set p (some ⟨a.st, meetC a.cl k.cl⟩)) (come.set j (some ⟨a.st, meetC a.cl k.cl⟩))))) := by
  constructor
  · rintro rfl
    exact ⟨ho, rfl⟩
  · rintro j rfl
    obtain ⟨hj, hp⟩ := ho
    have hlt := (pl_lt hc hj).2
    have hbg := beg_at hj
    have hs := h.same j hj
    rw [hp] at hlt hbg hs
    refine ⟨hlt, hbg, hj, fun e => ?_, fun a e => ?_⟩
    · rw [hs] at e
      exact ⟨by simp only [bringK, e], h.set hc ⟨hj, hp⟩ _⟩
    · rw [hs] at e
      refine ⟨e, fun g => by simp only [bringK, e]; rw [if_neg g], fun g => ⟨by simp only [bringK, e]; rw [if_pos g], h.set hc ⟨hj, hp⟩ _⟩⟩
/-- Between two places: what is left to look through. -/
structure FlI (b : List UInt8) (ins : List Ins) (depth at_ i : Nat) (kl come : List (Option Kn)) (R : Bool) : Prop where
  pc : PlC b ins kl come
  le : i ≤ ins.length
  old : ∀ j, j < i → (ins.getD j noIns).pl < at_
  new : ∀ j, i ≤ j → j < ins.length → at_ ≤ (ins.getD j noIns).pl
  res : R = flowK ins depth (ins.drop i) i come
theorem FlI.skip {b : List UInt8} {ins : List Ins} {depth at_ i : Nat} {kl come : List (Option Kn)} {R : Bool} (h : FlI b ins depth at_ i kl come R) (hb : beg ins at_ = false) : FlI b ins depth (at_ + 1) i kl come R :=
  ⟨h.pc, h.le, fun j hj => by have := h.old j hj; omega, fun j h1 h2 => by
    have h3 := h.new j h1 h2
    rcases Nat.lt_or_eq_of_le h3 with g | g
    · exact g
    · rw [g, beg_at h2] at hb; exact absurd hb (by decide), h.res⟩
theorem FlI.here {b : List UInt8} {ins : List Ins} {depth at_ i : Nat} {kl come : List (Option Kn)} {R : Bool} (h : FlI b ins depth at_ i kl come R) (hc : CodeOK b ins) (hb : beg ins at_ = true) : i < ins.length ∧ (ins.getD i noIns).pl = at_ ∧ kl.getD at_ none = come.getD i none ∧ ins.drop i = ins.getD i noIns :: ins.drop (i + 1) := by
  obtain ⟨j, hj, e⟩ := beg_iff.1 hb
  have h1 : i ≤ j := Nat.le_of_not_lt fun g => by have := h.old j g; omega
  have hi : i < ins.length := by omega
  have h2 := h.new i (Nat.le_refl _) hi
  have e2 : i = j := by
    rcases Nat.lt_or_eq_of_le h1 with g | g
    · have := pl_inc hc g hj; omega
    · exact g
  subst e2
  refine ⟨hi, e, ?_, ?_⟩
  · rw [← e]; exact h.pc.same i hi
  · rw [List.drop_eq_getElem_cons hi, List.getD_eq_getElem?_getD, List.getElem?_eq_getElem hi]; rfl
theorem FlI.next {b : List UInt8} {ins : List Ins} {depth at_ i : Nat} {kl come : List (Option Kn)} {R : Bool} (h : FlI b ins depth at_ i kl come R) (hc : CodeOK b ins) (hb : beg ins at_ = true) {kl' come' : List (Option Kn)} (hp : PlC b ins kl' come') (hr : R = flowK ins depth (ins.drop (i + 1)) (i + 1) come') : FlI b ins depth (at_ + 1) (i + 1) kl' come' R := by
  obtain ⟨hi, e, _, _⟩ := h.here hc hb
  refine ⟨hp, hi, fun j hj => ?_, fun j h1 h2 => ?_, hr⟩
  · rcases Nat.lt_or_eq_of_le (Nat.le_of_lt_succ hj) with g | g
    · have := h.old j g; omega
    · subst g; omega
  · have := pl_inc hc (show i < j by omega) h2
    omega
theorem FlI.last {b : List UInt8} {ins : List Ins} {depth i : Nat} {kl come : List (Option Kn)} {R : Bool} (h : FlI b ins depth b.length i kl come R) (hc : CodeOK b ins) : R = true := by
  have e : i = ins.length := by
    rcases Nat.lt_or_eq_of_le h.le with g | g
    · have h1 := h.new i (Nat.le_refl _) g
      have h2 := (pl_lt hc g).2
      omega
    · exact g
  rw [h.res, e, List.drop_length]; rfl
/-- At the beginning. -/
theorem FlI.first {b : List UInt8} {ins : List Ins} (depth cells : Nat) (hc : CodeOK b ins) (h0 : 0 < ins.length) : FlI b ins depth 3 0 ((List.replicate b.length none).set 3 (some ⟨[], List.replicate cells 0⟩)) (come0 cells ins.length) (flowK ins depth ins 0 (come0 cells ins.length)) := by
  have hp0 : (ins.getD 0 noIns).pl = 3 := by
    have := hc.order
    cases ins with
    | nil => simp at h0
    | cons x r => exact this.1
  have h3 : 3 < b.length := by have := (pl_lt hc h0).2; omega
  refine ⟨⟨by simp, come0_len _ _ h0, fun i hi => ?_⟩, Nat.zero_le _, fun j hj => by omega, fun j _ hj => (pl_lt hc hj).1, by rw [List.drop_zero]⟩
  cases i with
  | zero => rw [hp0, getD_set_eq (by simpa using h3)]; rfl
  | succ i =>
    have := pl_inc hc (show 0 < i + 1 by omega) hi
    rw [getD_set_ne (by omega)]
    unfold come0
    have e : ∀ (n j : Nat), (List.replicate n (none : Option Kn)).getD j none = none := fun n j => by
      rw [List.getD_eq_getElem?_getD, List.getElem?_replicate]; split <;> rfl
    rw [List.getD_cons_succ, e, e]
/-- Where instructions begin, as far as they were read. -/
def begL (n : Nat) (ins : List Ins) : List Bool := (List.range n).map fun p => beg ins p
theorem begL_len (n : Nat) (ins : List Ins) : (begL n ins).length = n := by simp [begL]
theorem begL_at {n : Nat} (ins : List Ins) {p : Nat} (h : p < n) : (begL n ins)[p]? = some (beg ins p) := by simp [begL, h]
theorem begL_more {n : Nat} (ins : List Ins) (x : Ins) : (begL n ins).set x.pl true = begL n (ins ++ [x]) := by
  apply List.ext_getElem?
  intro p
  by_cases hp : p < n
  · rw [begL_at _ hp]
    by_cases e : x.pl = p
    · subst e
      rw [List.getElem?_set_self (by rw [begL_len]; exact hp)]
      simp [beg]
    · rw [List.getElem?_set_ne e, begL_at _ hp]
      simp [beg, e]
  · rw [List.getElem?_eq_none (by rw [List.length_set, begL_len]; omega), List.getElem?_eq_none (by rw [begL_len]; omega)]
/-- Reading on. -/
structure DecI (b : List UInt8) (a : Nat) (pre : List Ins) (R : Option (List Ins)) : Prop where
  le : a ≤ b.length
  go : ∃ f, b.length < f + a ∧ R = (dec f b a).map (pre ++ ·)
theorem DecI.first {b : List UInt8} (h : 3 ≤ b.length) : DecI b 3 [] (dec (b.length + 1) b 3) := ⟨h, b.length + 1, by omega, by simp⟩
theorem DecI.bad {b : List UInt8} {a : Nat} {pre : List Ins} {R : Option (List Ins)} (h : DecI b a pre R) (ha : a < b.length) (hb : ¬ (sizeOp (byteAt b a) ≠ 0 ∧ a + sizeOp (byteAt b a) ≤ b.length ∧ (sizeOp (byteAt b a) = 2 → (byteAt b (a + 1) : Int) ≤ boundOp (byteAt b a) (byteAt b 2)))) : R = none := by
  obtain ⟨f, hf, e⟩ := h.go
  rw [e]
  cases f with
  | zero => rfl
  | succ f => rw [dec, if_neg (by omega), if_neg hb]; rfl
theorem DecI.step {b : List UInt8} {a : Nat} {pre : List Ins} {R : Option (List Ins)} (h : DecI b a pre R) (ha : a < b.length) (hg : sizeOp (byteAt b a) ≠ 0 ∧ a + sizeOp (byteAt b a) ≤ b.length ∧ (sizeOp (byteAt b a) = 2 → (byteAt b (a + 1) : Int) ≤ boundOp (byteAt b a) (byteAt b 2))) : DecI b (a + sizeOp (byteAt b a)) (pre ++ [insAt b a]) R := by
  obtain ⟨f, hf, e⟩ := h.go
  cases f with
  | zero => omega
  | succ f =>
    refine ⟨hg.2.1, f, by have := hg.1; omega, ?_⟩
    rw [e, dec, if_neg (by omega), if_pos hg, Option.map_map]
    congr 1
    funext l
    simp
theorem DecI.last {b : List UInt8} {a : Nat} {pre : List Ins} {R : Option (List Ins)} (h : DecI b a pre R) (ha : b.length ≤ a) : R = some pre := by
  obtain ⟨f, hf, e⟩ := h.go
  rw [e]
  cases f with
  | succ f => rw [dec, if_pos ha]; simp
  | zero => have := h.le; omega
end Go.Proofs.YtfkdailfcmnjlaaDoor
