/-
  The compiler's layer: the instruction of a word, of a sign, of a verdict. The compiler's layer, plainly: which jumps are left open, and what they are when they come to an end. The compiler's layer: doings one behind the other; what is known ahead of an instruction is no part of it. A tree in memory that keeps off some blocks. Conditions laid as instructions: what the layer keeps, the plain lists. Conditions asked by jumps: the plain lists. Conditions laid as instructions: an if. Conditions laid as instructions: whichever.
-/
import Derived.Test.YtfkdailfcmnjlaaGreatDoorCompiles01
import Derived.Test.YtfkdailfcmnjlaaGreatDoorCompiles02
import Derived.Test.YtfkdailfcmnjlaaGreatDoorCompiles04
import Derived.Test.YtfkdailfcmnjlaaGreatDoorCompiles05
import Derived.Test.YtfkdailfcmnjlaaGreatDoorCompiles06
import Derived.Test.YtfkdailfcmnjlaaGreatDoorCompiles07
import Derived.Test.YtfkdailfcmnjlaaGreatDoorCompiles08
import Derived.Test.YtfkdailfcmnjlaaGreatDoorCompiles09
import Derived.Test.YtfkdailfcmnjlaaGreatDoorCompiles10
import Derived.Test.YtfkdailfcmnjlaaGreatDoorCompiles11
import Derived.Test.YtfkdailfcmnjlaaGreatDoorCompiles12
import Derived.Test.YtfkdailfcmnjlaaGreatDoorCompiles13
import Derived.Test.YtfkdailfcmnjlaaGreatDoorCompiles14
import Derived.Test.YtfkdailfcmnjlaaGreatDoorCompiles15
import Derived.Test.YtfkdailfcmnjlaaGreatDoorCompiles16
import Derived.Test.YtfkdailfcmnjlaaGreatDoorCompiles17
import Derived.Test.YtfkdailfcmnjlaaGreatDoorCompiles18
import Derived.Test.YtfkdailfcmnjlaaGreatDoorCompiles19
import Derived.Test.YtfkdailfcmnjlaaGreatDoorCompiles20
import Derived.Test.YtfkdailfcmnjlaaGreatDoorCompiles21
import Derived.Test.YtfkdailfcmnjlaaGreatDoorCompiles22
import Derived.Test.YtfkdailfcmnjlaaGreatDoorCompiles23
import Derived.Test.YtfkdailfcmnjlaaGreatDoorCompiles24
import Derived.Test.YtfkdailfcmnjlaaGreatDoorCompiles25
import Derived.Test.YtfkdailfcmnjlaaGreatDoorCompiles26
import Derived.Test.YtfkdailfcmnjlaaGreatDoorCompiles27
import Derived.Test.YtfkdailfcmnjlaaGreatDoorCompiles28
import Derived.Test.YtfkdailfcmnjlaaGreatDoorCompiles29
import Derived.Test.YtfkdailfcmnjlaaGreatDoorCompiles30
import Derived.Test.YtfkdailfcmnjlaaGreatDoorCompiles31
import Derived.Test.YtfkdailfcmnjlaaGreatDoorCompiles32
import Derived.Test.YtfkdailfcmnjlaaGreatDoorCompiles34
import Derived.Test.YtfkdailfcmnjlaaGreatDoorCompiles35
import Derived.Test.YtfkdailfcmnjlaaGreatDoorCompiles37
import Derived.Test.YtfkdailfcmnjlaaGreatDoorCompiles38
import Derived.Test.YtfkdailfcmnjlaaGreatDoorCompiles39
import Derived.Test.YtfkdailfcmnjlaaGreatDoorCompiles40
import Derived.Test.YtfkdailfcmnjlaaGreatDoorCompiles41
import Derived.Test.YtfkdailfcmnjlaaGreatDoorLays
import Derived.Test.YtfkdailfcmnjlaaGreatDoorLays2
import Derived.WalkKit
import Derived.Deep.QuietTactic
import Derived.BigQuiet
import Derived.WalkSpells
import GoSem.Op.String
import Derived.Deep.AppendLies
import Derived.Deep.RegionHeld3
import Derived.Deep.DrawnRows
import Derived.Deep.RegionHeldLaw
import Derived.Deep.RegionLaw
import Derived.Lib.ParseIntBCases
import Derived.Deep.OwnRows
import Derived.Lib.LaidTab
import Derived.Lib.AppendIntMem
import Derived.Shelf.Strings.Builder1
import Derived.Laws.CopyOwn
import Derived.Deep.DeepCutAuto
import Derived.WalkSmall
import Derived.Lib.AppendZerosOnto
set_option linter.unusedVariables false
set_option linter.unusedSimpArgs false
namespace Go.Proofs.YtfkdailfcmnjlaaGreatDoor
open Go Go.RowKit
set_option maxRecDepth 100000
attribute [local go_sem ↓] Go.wp_at_zero Go.wp_at_succ

set_option maxHeartbeats 1000000 in
theorem over_any (k : Nat) (hk : twoK k) (w : World) : Calls Tryz.prog 180 #[.int .i64 k] w fun e w' => e = .returned (.int .i64 (overOp k : Nat)) ∧ w' = w := by
  unfold twoK at hk
  rcases hk with rfl | rfl | rfl | rfl | rfl | rfl | rfl
  all_goals
    go_enter Tryz.func180, Tryz.ntmps180
    go_wp2
    go_ret
    exact ⟨rfl, rfl⟩
set_option maxHeartbeats 1000000 in
theorem verdict_any (k : Nat) (hk : k = 12 ∨ k = 13) (w : World) : Calls Tryz.prog 135 #[.int .i64 k] w fun e w' => e = .returned (.int .i64 (verdictOp k : Nat)) ∧ w' = w := by
  rcases hk with rfl | rfl
  all_goals
    go_enter Tryz.func135, Tryz.ntmps135
    go_wp2
    go_ret
    exact ⟨rfl, rfl⟩
theorem LyOut.weak {w0 w w' : World} {lp : Nat} {jmp : Bool} {v : Value} {l : List L3} {dep cells : Nat} (h : LyOut w w' lp jmp v l dep cells) (hw : w0 = w) : LyOut w0 w' lp jmp v l dep cells := hw ▸ h
set_option maxHeartbeats 4000000 in
theorem layWord_any {lp : Nat} {jmp : Bool} {v : Value} {l : List L3} {dep cells : Nat} {b k : Nat} {pl n lt : Int} {nm : List UInt8} {u : Value} {w : World} (h : LyAt w lp jmp v l dep cells) (hl : l.length ≤ 5000) (hk : leafK k) (hc : CellsC w b k pl n nm u lt) :
    Calls Tryz.prog 181 #[.pointer (some ⟨lp, 0, none⟩), .pointer (some ⟨b, 0, none⟩)] w fun e w' => e = .returned (.tuple #[]) ∧ LyOut w w' lp jmp v (l ++ [⟨wordOp ⟨k, n, lt, []⟩, wordN ⟨k, n, lt, []⟩, 0⟩]) dep cells := by
  have hk100 : k ≤ 100 := by unfold leafK at hk; omega
  have W1 := fun w => pfield_any k w hk100
  have W2 := fun w => pmemb_any k w hk100
  have W3 := fun op n => add_any op n h hl
  obtain ⟨c0, c1, c2, c3, c4, c5⟩ := hc
  by_cases h27 : 27 ≤ k
  · have hd : (27 ≤ k ∧ k ≤ 35) := by unfold leafK at hk; omega
    have HE : Hid (wordOp ⟨k, n, lt, []⟩ = 4 ∧ wordN ⟨k, n, lt, []⟩ = ((k - 27 : Nat) : Int)) := ⟨by simp [wordOp, h27], by simp [wordN, h27]⟩
    have V3 := W3 4 ((k - 27 : Nat) : Int)
    rw [if_pos hd, decide_eq_true hd] at W1
    generalize k - 27 = m at *
    clear h hk W3 W2
    go_enter Tryz.func181, Tryz.ntmps181
    go_wp2_with (first
      | (go_at_call 171; refine (W1 _).mono ?_; rintro e w' ⟨rfl, hw'⟩; obtain rfl := hw'.symm)
      | (go_at_call 93; refine V3.mono ?_; rintro e w2 ⟨rfl, hout⟩; have HO : Hid _ := hout; clear hout V3))
    refine bodyPost_ret (v := .tuple #[]) (by simp [results, Tryz.results181, go_sem]) rfl ?_
    exact ⟨rfl, by rw [HE.out.1, HE.out.2]; exact HO.out⟩
  have hn27 : ¬ (27 ≤ k ∧ k ≤ 35) := by omega
  rw [if_neg hn27, decide_eq_false hn27] at W1
  by_cases h22 : 22 ≤ k
  · have hd : (22 ≤ k ∧ k ≤ 26) := by unfold leafK at hk; omega
    have HE : Hid (wordOp ⟨k, n, lt, []⟩ = 3 ∧ wordN ⟨k, n, lt, []⟩ = ((k - 22 : Nat) : Int)) := ⟨by simp [wordOp, h27, h22], by simp [wordN, h27, h22]⟩
    have V3 := W3 3 ((k - 22 : Nat) : Int)
    rw [if_pos hd, decide_eq_true hd] at W2
    generalize k - 22 = m at *
    clear h hk W3
    go_enter Tryz.func181, Tryz.ntmps181
    go_wp2_with (first
      | (go_at_call 171; refine (W1 _).mono ?_; rintro e w' ⟨rfl, hw'⟩; obtain rfl := hw'.symm)
      | (go_at_call 172; refine (W2 _).mono ?_; rintro e w' ⟨rfl, hw'⟩; obtain rfl := hw'.symm)
      | (go_at_call 93; refine V3.mono ?_; rintro e w2 ⟨rfl, hout⟩; have HO : Hid _ := hout; clear hout V3))
    refine bodyPost_ret (v := .tuple #[]) (by simp [results, Tryz.results181, go_sem]) rfl ?_
    exact ⟨rfl, by rw [HE.out.1, HE.out.2]; exact HO.out⟩
  have hn22 : ¬ (22 ≤ k ∧ k ≤ 26) := by omega
  rw [if_neg hn22, decide_eq_false hn22] at W2
  by_cases h1 : k = 1
  · subst h1
    have HE : Hid (wordOp ⟨1, n, lt, []⟩ = 1 ∧ wordN ⟨1, n, lt, []⟩ = n) := ⟨rfl, rfl⟩
    have V3 := W3 1 n
    clear h hk W3
    go_enter Tryz.func181, Tryz.ntmps181
    go_wp2_with (first
      | (go_at_call 171; refine (W1 _).mono ?_; rintro e w' ⟨rfl, hw'⟩; obtain rfl := hw'.symm)
      | (go_at_call 172; refine (W2 _).mono ?_; rintro e w' ⟨rfl, hw'⟩; obtain rfl := hw'.symm)
      | (go_at_call 93; refine V3.mono ?_; rintro e w2 ⟨rfl, hout⟩; have HO : Hid _ := hout; clear hout V3))
    go_end0
    exact ⟨rfl, by rw [HE.out.1, HE.out.2]; exact HO.out⟩
  by_cases h2 : k = 2
  · subst h2
    have HE : Hid (wordOp ⟨2, n, lt, []⟩ = 6 ∧ wordN ⟨2, n, lt, []⟩ = lt) := ⟨rfl, rfl⟩
    have V3 := W3 6 lt
    clear h hk W3
    go_enter Tryz.func181, Tryz.ntmps181
    go_wp2_with (first
      | (go_at_call 171; refine (W1 _).mono ?_; rintro e w' ⟨rfl, hw'⟩; obtain rfl := hw'.symm)
      | (go_at_call 172; refine (W2 _).mono ?_; rintro e w' ⟨rfl, hw'⟩; obtain rfl := hw'.symm)
      | (go_at_call 93; refine V3.mono ?_; rintro e w2 ⟨rfl, hout⟩; have HO : Hid _ := hout; clear hout V3))
    go_end0
    exact ⟨rfl, by rw [HE.out.1, HE.out.2]; exact HO.out⟩
  have HE : Hid (wordOp ⟨k, n, lt, []⟩ = 2 ∧ wordN ⟨k, n, lt, []⟩ = truthI (decide (k = 20))) := ⟨by simp [wordOp, h27, h22, h1, h2], by simp [wordN, h27, h22, h1, h2]⟩
  have W4 := fun w => ptruth_any (decide (k = 20)) w
  have V3 := W3 2 (truthI (decide (k = 20)))
  have h2021 : k = 20 ∨ k = 21 := by unfold leafK at hk; omega
  clear h hk W3
  rcases h2021 with rfl | rfl
  · rw [decide_eq_true rfl] at W4 V3
    go_enter Tryz.func181, Tryz.ntmps181
    go_wp2_with (first
      | (go_at_call 171; refine (W1 _).mono ?_; rintro e w' ⟨rfl, hw'⟩; obtain rfl := hw'.symm)
      | (go_at_call 172; refine (W2 _).mono ?_; rintro e w' ⟨rfl, hw'⟩; obtain rfl := hw'.symm)
      | (go_at_call 82; refine (W4 _).mono ?_; rintro e w' ⟨rfl, hw'⟩; obtain rfl := hw'.symm)
      | (go_at_call 93; refine V3.mono ?_; rintro e w2 ⟨rfl, hout⟩; have HO : Hid _ := hout; clear hout V3))
    go_end0
    exact ⟨rfl, by rw [HE.out.1, HE.out.2]; exact HO.out⟩
  · rw [decide_eq_false (by decide)] at W4 V3
    go_enter Tryz.func181, Tryz.ntmps181
    go_wp2_with (first
      | (go_at_call 171; refine (W1 _).mono ?_; rintro e w' ⟨rfl, hw'⟩; obtain rfl := hw'.symm)
      | (go_at_call 172; refine (W2 _).mono ?_; rintro e w' ⟨rfl, hw'⟩; obtain rfl := hw'.symm)
      | (go_at_call 82; refine (W4 _).mono ?_; rintro e w' ⟨rfl, hw'⟩; obtain rfl := hw'.symm)
      | (go_at_call 93; refine V3.mono ?_; rintro e w2 ⟨rfl, hout⟩; have HO : Hid _ := hout; clear hout V3))
    go_end0
    exact ⟨rfl, by rw [HE.out.1, HE.out.2]; exact HO.out⟩
end Go.Proofs.YtfkdailfcmnjlaaGreatDoor

namespace Go.Proofs.YtfkdailfcmnjlaaGreatDoor
open Go Go.RowKit
set_option maxRecDepth 100000

/-- The jumps that a condition leaves open. -/
def jdx (jmp : Bool) : Nat → Bool → Tr → Nat → List Nat
  | 0, _, _, _ => []
  | d + 1, this, t, p =>
    if byJ jmp t.k then
      if t.k = 20 ∨ t.k = 21 then (if this = decide (t.k = 20) then [p] else [])
      else if t.k = 19 then jdx jmp d (!this) (t.kid 0) p
      else if t.k = 14 then jdx jmp d this (t.kid 1) (p + szG jmp d (some false) (t.kid 0)) ++ jdx jmp d this (t.kid 2) (p + szG jmp d (some false) (t.kid 0) + szG jmp d (some this) (t.kid 1) + 1)
      else (if this = decide (t.k = 17) then jdx jmp d (decide (t.k = 17)) (t.kid 0) p else []) ++ jdx jmp d this (t.kid 1) (p + szG jmp d (some (decide (t.k = 17))) (t.kid 0))
    else [p + szG jmp (d + 1) none t + (if this then 1 else 0)]
theorem setAll_app (l : List L3) (a b : List Nat) (T : Nat) : setAll l (a ++ b) T = setAll (setAll l a T) b T := by unfold setAll; rw [List.foldl_append]
theorem setTo_here (pre post : List L3) (x : L3) (T : Nat) : setTo (pre ++ (x :: post)) pre.length T = pre ++ (⟨x.op, x.n, T⟩ :: post) := by
  unfold setTo
  have e : (pre ++ (x :: post)).getD pre.length noL3 = x := by
    rw [List.getD_eq_getElem?_getD, List.getElem?_append_right (Nat.le_refl _)]; simp
  rw [e, List.set_append_right _ _ (Nat.le_refl _)]
  simp
theorem gen_er_len (jmp : Bool) (d : Nat) (m : Option Bool) (t : Tr) (k : Kn) (p T : Nat) : ((gen jmp d m t k p T).map er).length = szG jmp d m t := by rw [List.length_map, gen_len]
theorem gen_set {jmp : Bool} (d : Nat) : ∀ {t : Tr} {k : Kn} {this : Bool} {pre post : List L3} {p : Nat} (T : Nat), WfT d t → pre.length = p → setAll (pre ++ ((gen jmp d (some this) t k p 0).map er ++ post)) (jdx jmp d this t p) T = pre ++ ((gen jmp d (some this) t k p T).map er ++ post) := by
  induction d with
  | zero => intro t k this pre post p T h; exact h.elim
  | succ d ih =>
    intro t k this pre post p T h hp
    have hw := h.2
    cases hj : byJ jmp t.k with
    | false =>
      have hgen : ∀ T, gen jmp (d + 1) (some this) t k p T = gen jmp (d + 1) none t k p 0 ++ ((if this then [⟨12, 0, 0, ⟨2 :: k.st, k.cl⟩⟩] else []) ++ [⟨15, 0, T, ⟨2 :: k.st, k.cl⟩⟩]) := fun T => by
        simp only [gen, hj]; rfl
      have hjd : jdx jmp (d + 1) this t p = [p + szG jmp (d + 1) none t + (if this then 1 else 0)] := by simp only [jdx, hj]; rfl
      rw [hgen 0, hgen T, hjd]
      have hl := gen_er_len jmp (d + 1) none t k p 0
      cases this with
      | true =>
        have e := setTo_here (pre ++ ((gen jmp (d + 1) none t k p 0).map er ++ [⟨12, 0, 0⟩])) post ⟨15, 0, 0⟩ T
        rw [List.length_append, List.length_append, hl, hp] at e
        simpa [setAll, er, Nat.add_assoc] using e
      | false =>
        have e := setTo_here (pre ++ (gen jmp (d + 1) none t k p 0).map er) post ⟨15, 0, 0⟩ T
        rw [List.length_append, hl, hp] at e
        simpa [setAll, er] using e
    | true =>
      simp only [gen, jdx, hj, if_true]
      rcases h.1 with ⟨hk, hs, _⟩ | ⟨hk, a, hs⟩ | ⟨hk, a, b, c, hs⟩ | ⟨hk, a, b, hs⟩
      · have h2 : t.k = 20 ∨ t.k = 21 := by
          unfold byJ at hj; unfold leafK at hk
          simp at hj; omega
        simp only [if_pos h2]
        by_cases g : this = decide (t.k = 20)
        · simp only [if_pos g]
          have e := setTo_here pre post ⟨16, 0, 0⟩ T
          rw [hp] at e
          simpa [setAll, er] using e
        · simp only [if_neg g]
          rfl
      · have h2 : ¬ (t.k = 20 ∨ t.k = 21) := by omega
        rw [if_neg h2, if_neg h2, if_pos hk, if_pos hk, if_neg h2, if_pos hk]
        have e0 : t.kid 0 = a := by unfold Tr.kid; rw [hs]; rfl
        rw [e0]
        exact ih T (hw a (by rw [hs]; simp)) hp
      · have h2 : ¬ (t.k = 20 ∨ t.k = 21) := by omega
        have h19 : ¬ t.k = 19 := by omega
        have e0 : t.kid 0 = a := by unfold Tr.kid; rw [hs]; rfl
        have e1 : t.kid 1 = b := by unfold Tr.kid; rw [hs]; rfl
        have e2 : t.kid 2 = c := by unfold Tr.kid; rw [hs]; rfl
        simp only [if_neg h2, if_neg h19, if_pos hk, e0, e1, e2]
        rw [setAll_app]
        have la := gen_er_len jmp d (some false) a k p (p + szG jmp d (some false) a + szG jmp d (some this) b + 1)
        have lb := fun T => gen_er_len jmp d (some this) b k (p + szG jmp d (some false) a) T
        have i1 := ih (t := b) (k := k) (this := this) (pre := pre ++ (gen jmp d (some false) a k p (p + szG jmp d (some false) a + szG jmp d (some this) b + 1)).map er) (post := ⟨16, 0, p + szG jmp d (some false) a + szG jmp d (some this) b + 1 + szG jmp d (some this) c⟩ :: ((gen jmp d (some this) c k (p + szG jmp d (some false) a + szG jmp d (some this) b + 1) 0).map er ++ post)) T (hw b (by rw [hs]; simp)) (p := p + szG jmp d (some false) a) (by rw [List.length_append, la, hp])
        have i2 := ih (t := c) (k := k) (this := this) (pre := pre ++ ((gen jmp d (some false) a k p (p + szG jmp d (some false) a + szG jmp d (some this) b + 1)).map er ++ ((gen jmp d (some this) b k (p + szG jmp d (some false) a) T).map er ++ [⟨16, 0, p + szG jmp d (some false) a + szG jmp d (some this) b + 1 + szG jmp d (some this) c⟩]))) (post := post) T (hw c (by rw [hs]; simp)) (p := p + szG jmp d (some false) a + szG jmp d (some this) b + 1) (by rw [List.length_append, List.length_append, List.length_append, la, lb, hp]; simp; omega)
        simp only [List.map_append, List.map_cons, List.append_assoc, List.cons_append, List.nil_append, er] at i1 i2 ⊢
        rw [i1, i2]
      · have h2 : ¬ (t.k = 20 ∨ t.k = 21) := by unfold twoK at hk; omega
        have h19 : ¬ t.k = 19 := by unfold twoK at hk; omega
        have h14 : ¬ t.k = 14 := by unfold twoK at hk; omega
        have e0 : t.kid 0 = a := by unfold Tr.kid; rw [hs]; rfl
        have e1 : t.kid 1 = b := by unfold Tr.kid; rw [hs]; rfl
        simp only [if_neg h2, if_neg h19, if_neg h14, e0, e1]
        rw [setAll_app]
        have la := fun T => gen_er_len jmp d (some (decide (t.k = 17))) a k p T
        by_cases g : this = decide (t.k = 17)
        · simp only [if_pos g]
          have i1 := ih (t := a) (k := k) (this := decide (t.k = 17)) (pre := pre) (post := (gen jmp d (some this) b k (p + szG jmp d (some (decide (t.k = 17))) a) 0).map er ++ post) T (hw a (by rw [hs]; simp)) hp
          have i2 := ih (t := b) (k := k) (this := this) (pre := pre ++ (gen jmp d (some (decide (t.k = 17))) a k p T).map er) (post := post) T (hw b (by rw [hs]; simp)) (p := p + szG jmp d (some (decide (t.k = 17))) a) (by rw [List.length_append, la, hp])
          simp only [List.map_append, List.append_assoc] at i1 i2 ⊢
          rw [i1, i2]
        · simp only [if_neg g]
          have i2 := ih (t := b) (k := k) (this := this) (pre := pre ++ (gen jmp d (some (decide (t.k = 17))) a k p (p + szG jmp d (some (decide (t.k = 17))) a + szG jmp d (some this) b)).map er) (post := post) T (hw b (by rw [hs]; simp)) (p := p + szG jmp d (some (decide (t.k = 17))) a) (by rw [List.length_append, la, hp])
          simp only [List.map_append, List.append_assoc] at i2 ⊢
          show setAll (pre ++ _) _ T = _
          rw [i2]
end Go.Proofs.YtfkdailfcmnjlaaGreatDoor

namespace Go.Proofs.YtfkdailfcmnjlaaGreatDoor
open Go Go.RowKit
set_option maxRecDepth 100000
attribute [local go_sem ↓] Go.wp_at_zero Go.wp_at_succ

theorem LyOut.trans {w w1 w2 : World} {lp : Nat} {jmp : Bool} {v : Value} {l1 l2 : List L3} {d1 d2 c1 c2 : Nat} (h1 : LyOut w w1 lp jmp v l1 d1 c1) (h2 : ∀ v1, LyAt w1 lp jmp v1 l1 d1 c1 → LyOut w1 w2 lp jmp v1 l2 d2 c2) : LyOut w w2 lp jmp v l2 d2 c2 := by
  obtain ⟨v1, a1, o1, f1⟩ := h1
  obtain ⟨v2, a2, o2, f2⟩ := h2 v1 a1
  refine ⟨v2, a2, o1.trans o2 (fun _ _ h => h) (fun i hi h => ?_), fun b hb => ?_⟩
  · rcases h with h | h
    · exact .inl h
    · rcases f1 i h with h | h
      · exact .inr h
      · omega
  · rcases f2 b hb with h | h
    · exact f1 b h
    · right; have := o1.size; omega
/-- The same instructions, whatever is known. -/
theorem gen_er_k (jmp : Bool) (d : Nat) : ∀ (m : Option Bool) (t : Tr) (k k' : Kn) (p T : Nat), (gen jmp d m t k p T).map er = (gen jmp d m t k' p T).map er := by
  induction d with
  | zero => intros; rfl
  | succ d ih =>
    intro m t k k' p T
    have LAY : (gen jmp (d + 1) none t k p 0).map er = (gen jmp (d + 1) none t k' p 0).map er := by
      simp only [gen]
      (repeat' split) <;> simp only [List.map_append, List.map_cons, List.map_nil, er]
      · rw [ih _ _ k k', ih _ _ k k', ih _ (t.kid 2) k k']
      · rw [ih _ _ k k']
      · rw [ih _ (t.kid 0) k k', ih _ (t.kid 1) _ ⟨tyTr k'.cl d (t.kid 0) :: k'.st, k'.cl⟩]
    cases m with
    | none => exact LAY
    | some this =>
      cases hj : byJ jmp t.k with
      | false =>
        have hgen : ∀ k T, gen jmp (d + 1) (some this) t k p T = gen jmp (d + 1) none t k p 0 ++ ((if this then [⟨12, 0, 0, ⟨2 :: k.st, k.cl⟩⟩] else []) ++ [⟨15, 0, T, ⟨2 :: k.st, k.cl⟩⟩]) := fun k T => by
          simp only [gen, hj]; rfl
        simp only [hgen, List.map_append, LAY]
        cases this <;> rfl
      | true =>
        simp only [gen, hj, if_true]
        (repeat' split)
        all_goals first
          | rfl
          | exact ih _ _ k k' _ _
          | (simp only [List.map_append, List.map_cons, er]; rw [ih _ (t.kid 0) k k', ih _ (t.kid 1) k k', ih _ (t.kid 2) k k'])
          | (simp only [List.map_append]; rw [ih _ (t.kid 0) k k', ih _ (t.kid 1) k k'])
end Go.Proofs.YtfkdailfcmnjlaaGreatDoor

namespace Go.Proofs.YtfkdailfcmnjlaaGreatDoor
open Go Go.RowKit
set_option maxRecDepth 100000

/-- The list of the parts under a part, off some blocks. -/
def UnF (F : Nat → Prop) (w : World) (u : Value) (n : Nat) (bl : Nat → Nat) : Prop := ∃ a cap, u = .slice a n cap ∧ ∀ j, j < n → ∃ g, a = some ⟨g, 0, none⟩ ∧ ¬ F g ∧ w.cell? ⟨g, j, none⟩ = some (.pointer (some ⟨bl j, 0, none⟩))
/-- A tree lies at a block, off some blocks. -/
def TrF (F : Nat → Prop) : Nat → World → Nat → Tr → Prop
  | 0, _, _, _ => False
  | d + 1, w, b, t => ∃ (pl : Int) (nm : List UInt8) (u : Value) (bl : Nat → Nat), ¬ F b ∧ CellsC w b t.k pl t.n nm u t.l ∧ UnF F w u t.kids.length bl ∧ ∀ j, j < t.kids.length → TrF F d w (bl j) (t.kid j)
theorem UnF.un {F : Nat → Prop} {w : World} {u : Value} {n : Nat} {bl : Nat → Nat} (h : UnF F w u n bl) : UnderG w u n bl := by
  obtain ⟨a, cap, e, h⟩ := h
  refine ⟨a, cap, e, fun j hj => ?_⟩
  obtain ⟨g, e, _, c⟩ := h j hj
  exact ⟨g, e, c⟩
theorem TrF.tr {F : Nat → Prop} {d : Nat} : ∀ {w : World} {b : Nat} {t : Tr}, TrF F d w b t → TrAt d w b t := by
  induction d with
  | zero => intro w b t h; exact h.elim
  | succ d ih =>
    intro w b t h
    obtain ⟨pl, nm, u, bl, _, h1, h2, h3⟩ := h
    exact ⟨pl, nm, u, bl, h1, h2.un, fun j hj => ih (h3 j hj)⟩
theorem UnF.only {F : Nat → Prop} {w w' : World} {u : Value} {n : Nat} {bl : Nat → Nat} (h : UnF F w u n bl) (ho : Only F w w') : UnF F w' u n bl := by
  obtain ⟨a, cap, e, h⟩ := h
  refine ⟨a, cap, e, fun j hj => ?_⟩
  obtain ⟨g, e, hg, c⟩ := h j hj
  exact ⟨g, e, hg, by rw [World.cell?_of_block (w := w) (a := ⟨g, j, none⟩) (ho.block g (World.block_lt_of_cell? w _ c) hg)]; exact c⟩
theorem cells_only {F : Nat → Prop} {w w' : World} {b k : Nat} {pl n l : Int} {nm : List UInt8} {u : Value} (h : CellsC w b k pl n nm u l) (hb : ¬ F b) (ho : Only F w w') : CellsC w' b k pl n nm u l := by
  have e : ∀ j, w'.cell? ⟨b, j, none⟩ = w.cell? ⟨b, j, none⟩ := fun j => World.cell?_of_block (w := w) (a := ⟨b, j, none⟩) (ho.block b (World.block_lt_of_cell? w _ h.c0) hb)
  exact ⟨(e 0).trans h.c0, (e 1).trans h.c1, (e 2).trans h.c2, (e 3).trans h.c3, (e 4).trans h.c4, (e 5).trans h.c5⟩
theorem TrF.only {F : Nat → Prop} {d : Nat} : ∀ {w w' : World} {b : Nat} {t : Tr}, TrF F d w b t → Only F w w' → TrF F d w' b t := by
  induction d with
  | zero => intro w w' b t h; exact h.elim
  | succ d ih =>
    intro w w' b t h ho
    obtain ⟨pl, nm, u, bl, h0, h1, h2, h3⟩ := h
    exact ⟨pl, nm, u, bl, h0, cells_only h1 h0 ho, h2.only ho, fun j hj => ih (h3 j hj) ho⟩
theorem TrF.below {F : Nat → Prop} {d : Nat} {w w' : World} {b : Nat} {t : Tr} (h : TrF F d w b t) (hb : Below w.heap.size w w') : TrF F d w' b t := h.only (Only.of_below hb)
theorem UnF.below {F : Nat → Prop} {w w' : World} {u : Value} {n : Nat} {bl : Nat → Nat} (h : UnF F w u n bl) (hb : Below w.heap.size w w') : UnF F w' u n bl := h.only (Only.of_below hb)
theorem UnF.more {F G : Nat → Prop} {w : World} {u : Value} {n : Nat} {bl : Nat → Nat} (h : UnF F w u n bl) (hG : ∀ g, g < w.heap.size → G g → F g) : UnF G w u n bl := by
  obtain ⟨a, cap, e, h⟩ := h
  refine ⟨a, cap, e, fun j hj => ?_⟩
  obtain ⟨g, e, hg, c⟩ := h j hj
  exact ⟨g, e, fun x => hg (hG g (World.block_lt_of_cell? w _ c) x), c⟩
/-- Off others besides, where those are new. -/
theorem TrF.more {F G : Nat → Prop} {d : Nat} : ∀ {w : World} {b : Nat} {t : Tr}, TrF F d w b t → (∀ g, g < w.heap.size → G g → F g) → TrF G d w b t := by
  induction d with
  | zero => intro w b t h; exact h.elim
  | succ d ih =>
    intro w b t h hG
    obtain ⟨pl, nm, u, bl, h0, h1, h2, h3⟩ := h
    exact ⟨pl, nm, u, bl, fun x => h0 (hG b (World.block_lt_of_cell? w _ h1.c0) x), h1, h2.more hG, fun j hj => ih (h3 j hj) hG⟩
theorem TrF.up {F : Nat → Prop} {d : Nat} : ∀ {w : World} {b : Nat} {t : Tr}, TrF F d w b t → ∀ {e : Nat}, d ≤ e → TrF F e w b t := by
  induction d with
  | zero => intro w b t h; exact h.elim
  | succ d ih =>
    intro w b t h e he
    obtain ⟨e, rfl⟩ : ∃ q, e = q + 1 := ⟨e - 1, by omega⟩
    obtain ⟨pl, nm, u, bl, h0, h1, h2, h3⟩ := h
    exact ⟨pl, nm, u, bl, h0, h1, h2, fun j hj => ih (h3 j hj) (by omega)⟩
/-- A tree lies in the memory that there is. -/
theorem TrAt.off {d : Nat} : ∀ {w : World} {b : Nat} {t : Tr}, TrAt d w b t → TrF (fun g => w.heap.size ≤ g) d w b t := by
  induction d with
  | zero => intro w b t h; exact h.elim
  | succ d ih =>
    intro w b t h
    obtain ⟨pl, nm, u, bl, h1, h2, h3⟩ := h
    obtain ⟨a, cap, e, h2⟩ := h2
    refine ⟨pl, nm, u, bl, fun x => ?_, h1, ⟨a, cap, e, fun j hj => ?_⟩, fun j hj => ih (h3 j hj)⟩
    · have := World.block_lt_of_cell? w _ h1.c0; simp only [] at this; omega
    · obtain ⟨g, e, c⟩ := h2 j hj
      exact ⟨g, e, fun x => by have := World.block_lt_of_cell? w _ c; simp only [] at this; omega, c⟩
end Go.Proofs.YtfkdailfcmnjlaaGreatDoor

namespace Go.Proofs.YtfkdailfcmnjlaaGreatDoor
open Go Go.RowKit
set_option maxRecDepth 100000
attribute [local go_sem ↓] Go.wp_at_zero Go.wp_at_succ

/-- The instructions of a condition, from a place on, with the jumps left open. -/
def gE (jmp : Bool) (d : Nat) (m : Option Bool) (t : Tr) (p : Nat) : List L3 := (gen jmp d m t ⟨[], []⟩ p 0).map er
theorem gE_len (jmp : Bool) (d : Nat) (m : Option Bool) (t : Tr) (p : Nat) : (gE jmp d m t p).length = szG jmp d m t := gen_er_len _ _ _ _ _ _ _
theorem gE_leaf {jmp : Bool} {d : Nat} {t : Tr} {p : Nat} (h14 : t.k ≠ 14) (h19 : t.k ≠ 19) (hk : t.kids.length ≠ 2) : gE jmp (d + 1) none t p = [⟨wordOp t, wordN t, 0⟩] := by
  unfold gE; simp only [gen]; rw [if_neg h14, if_neg h19, if_neg hk]; rfl
theorem gE_not {jmp : Bool} {d : Nat} {t : Tr} {p : Nat} (h19 : t.k = 19) : gE jmp (d + 1) none t p = gE jmp d none (t.kid 0) p ++ [⟨12, 0, 0⟩] := by
  unfold gE; simp only [gen]; rw [if_neg (by omega), if_pos h19]; simp [er]
theorem gE_two {jmp : Bool} {d : Nat} {t : Tr} {p : Nat} (h14 : t.k ≠ 14) (h19 : t.k ≠ 19) (hk : t.kids.length = 2) : gE jmp (d + 1) none t p = gE jmp d none (t.kid 0) p ++ (gE jmp d none (t.kid 1) (p + szG jmp d none (t.kid 0)) ++ [⟨overOp t.k, 0, 0⟩]) := by
  unfold gE; simp only [gen]; rw [if_neg h14, if_neg h19, if_pos hk]
  simp only [List.map_append, List.map_cons, List.map_nil, er]
  rw [gen_er_k jmp d none (t.kid 1) _ ⟨[], []⟩]
/-- A jump set that stands behind a list. -/
theorem setAll_one (l : List L3) (j T : Nat) : setAll l [j] T = setTo l j T := rfl
/-- What the layer keeps: it lies behind the trees' memory, which stands. -/
structure LyW (F : Nat → Prop) (w0 w : World) (lp : Nat) (jmp : Bool) (v : Value) (l : List L3) (dep cells : Nat) : Prop where
  at_ : LyAt w lp jmp v l dep cells
  lp0 : F lp ∨ w0.heap.size ≤ lp
  own : ∀ g, v.ownBlock = some g → F g ∨ w0.heap.size ≤ g
  bel : Only F w0 w
theorem LyW.next {F : Nat → Prop} {w0 w w' : World} {lp : Nat} {jmp : Bool} {v : Value} {l l' : List L3} {dep cells dep' cells' : Nat} (h : LyW F w0 w lp jmp v l dep cells) (ho : LyOut w w' lp jmp v l' dep' cells') :
    ∃ v', LyW F w0 w' lp jmp v' l' dep' cells' ∧ (∀ {jv : Value} {js : List Int}, IR w 3 jv js → IR w' 3 jv js) ∧ w.heap.size ≤ w'.heap.size ∧ (∀ {w2 : World} {l2 : List L3} {d2 c2 : Nat}, LyOut w' w2 lp jmp v' l2 d2 c2 → LyOut w w2 lp jmp v l2 d2 c2) := by
  obtain ⟨v', a1, o1, f1⟩ := ho
  have hb : Only F w0 w' := h.bel.trans o1 (fun _ _ h => h) (fun k hk0 hk => by
    rcases hk with rfl | hk
    · exact h.lp0.resolve_right (by omega)
    · exact (h.own k hk).resolve_right (by omega))
  refine ⟨v', ⟨a1, h.lp0, fun g hg => ?_, hb⟩, fun {jv js} hj => hj.only o1 (fun g hg hF => ?_), o1.size, fun {w2 l2 d2 c2} h2 => ?_⟩
  · rcases f1 g hg with h1 | h1
    · exact h.own g h1
    · right; have := h.bel.size; omega
  · rcases hF with rfl | hF
    · exact hj.ne h.at_.blk (by decide) hg
    · obtain ⟨cs, hc⟩ := ownsRow_type h.at_.row hF
      exact hj.ne hc (by decide) hg
  · obtain ⟨v2, a2, o2, f2⟩ := h2
    refine ⟨v2, a2, o1.trans o2 (fun _ _ h => h) (fun i hi h => ?_), fun b hb => ?_⟩
    · rcases h with h | h
      · exact .inl h
      · rcases f1 i h with h | h
        · exact .inr h
        · omega
    · rcases f2 b hb with h | h
      · exact f1 b h
      · right; have := o1.size; omega
/-- The layer stands where only new memory was made. -/
theorem LyW.below {F : Nat → Prop} {w0 w w' : World} {lp : Nat} {jmp : Bool} {v : Value} {l : List L3} {dep cells : Nat} (h : LyW F w0 w lp jmp v l dep cells) (hb : Below w.heap.size w w') : LyW F w0 w' lp jmp v l dep cells :=
  ⟨⟨(hb.block _ (lt_of_get h.at_.blk)).trans h.at_.blk, ownsRow_below h.at_.row hb⟩, h.lp0, h.own, h.bel.trans (Only.of_below (F := F) hb) (fun _ _ h => h) (fun _ _ h => h)⟩
theorem LyOut.from {w w1 w2 : World} {lp : Nat} {jmp : Bool} {v : Value} {l2 : List L3} {d2 c2 : Nat} (hb : Below w.heap.size w w1) (h : LyOut w1 w2 lp jmp v l2 d2 c2) : LyOut w w2 lp jmp v l2 d2 c2 := by
  obtain ⟨v2, a2, o2, f2⟩ := h
  refine ⟨v2, a2, (Only.of_below hb).trans o2 (fun _ _ h => h) (fun _ _ h => h), fun b hb' => ?_⟩
  rcases f2 b hb' with h | h
  · exact .inl h
  · right; have := hb.size; omega
/-- A part in memory, opened. -/
structure NodeAt (W : World) (b : Nat) (t : Tr) (pl : Int) (nm : List UInt8) (u : Value) (bl : Nat → Nat) : Prop where
  cc : CellsC W b t.k pl t.n nm u t.l
  un : UnderG W u t.kids.length bl
theorem tr_node {F : Nat → Prop} {d : Nat} {w0 : World} {b : Nat} {t : Tr} (h : TrF F (d + 1) w0 b t) : ∃ pl nm u bl, (∀ W, Only F w0 W → NodeAt W b t pl nm u bl) ∧ ∀ j, j < t.kids.length → TrF F d w0 (bl j) (t.kid j) := by
  obtain ⟨pl, nm, u, bl, h0, h1, h2, h3⟩ := h
  exact ⟨pl, nm, u, bl, fun W hb => ⟨cells_only h1 h0 hb, (h2.only hb).un⟩, h3⟩
/-- Laying and asking, at most so deep. -/
def LayOK (jmp : Bool) (d : Nat) : Prop := ∀ {F : Nat → Prop} {t : Tr} {w0 w : World} {lp b bn dep cells : Nat} {v : Value} {l : List L3}, WfT d t → TrF F d w0 b t → LyW F w0 w lp jmp v l dep cells → l.length + szG jmp d none t ≤ 4900 → bn + d ≤ 1000 → dep ≤ 1000 →
    Calls Tryz.prog 133 #[.pointer (some ⟨lp, 0, none⟩), .pointer (some ⟨b, 0, none⟩), .int .i64 bn] w fun e w' => e = .returned (.tuple #[]) ∧ LyOut w w' lp jmp v (l ++ gE jmp d none t l.length) (max dep (dpG jmp d none t bn)) cells
def JumpOK (jmp : Bool) (d : Nat) : Prop := ∀ {F : Nat → Prop} {t : Tr} {w0 w : World} {lp b bn dep cells : Nat} {v : Value} {l : List L3} {this : Bool}, WfT d t → TrF F d w0 b t → LyW F w0 w lp jmp v l dep cells → l.length + szG jmp d (some this) t ≤ 4900 → bn + d ≤ 1000 → dep ≤ 1000 →
    Calls Tryz.prog 134 #[.pointer (some ⟨lp, 0, none⟩), .bool this, .pointer (some ⟨b, 0, none⟩), .int .i64 bn] w fun e w' => ∃ jv, e = .returned jv ∧ IR w' 3 jv ((jdx jmp d this t l.length).map fun j => ((j : Nat) : Int)) ∧ (∀ g, jv.ownBlock = some g → w.heap.size ≤ g) ∧ LyOut w w' lp jmp v (l ++ gE jmp d (some this) t l.length) (max dep (dpG jmp d (some this) t bn)) cells
end Go.Proofs.YtfkdailfcmnjlaaGreatDoor

namespace Go.Proofs.YtfkdailfcmnjlaaGreatDoor
open Go Go.RowKit
set_option maxRecDepth 100000

/-- An if, laid or asked: the jumps over its sides come to their ends. -/
theorem list_if {jmp : Bool} {d : Nat} {a b c : Tr} {m : Option Bool} {l : List L3} {p : Nat} (hp : l.length = p) (hw : WfT d a) :
    setTo (setAll (l ++ gE jmp d (some false) a p ++ gE jmp d m b (p + szG jmp d (some false) a) ++ [⟨16, 0, 0⟩]) (jdx jmp d false a p) (p + szG jmp d (some false) a + szG jmp d m b + 1) ++ gE jmp d m c (p + szG jmp d (some false) a + szG jmp d m b + 1)) (p + szG jmp d (some false) a + szG jmp d m b) (p + szG jmp d (some false) a + szG jmp d m b + 1 + szG jmp d m c)
      = l ++ ((gen jmp d (some false) a ⟨[], []⟩ p (p + szG jmp d (some false) a + szG jmp d m b + 1)).map er ++ (gE jmp d m b (p + szG jmp d (some false) a) ++ (⟨16, 0, p + szG jmp d (some false) a + szG jmp d m b + 1 + szG jmp d m c⟩ :: gE jmp d m c (p + szG jmp d (some false) a + szG jmp d m b + 1)))) := by
  have e1 := gen_set (jmp := jmp) d (t := a) (k := ⟨[], []⟩) (this := false) (pre := l) (post := gE jmp d m b (p + szG jmp d (some false) a) ++ [⟨16, 0, 0⟩]) (p + szG jmp d (some false) a + szG jmp d m b + 1) hw hp
  have ea : l ++ gE jmp d (some false) a p ++ gE jmp d m b (p + szG jmp d (some false) a) ++ [⟨16, 0, 0⟩] = l ++ ((gen jmp d (some false) a ⟨[], []⟩ p 0).map er ++ (gE jmp d m b (p + szG jmp d (some false) a) ++ [⟨16, 0, 0⟩])) := by
    show l ++ (gen jmp d (some false) a ⟨[], []⟩ p 0).map er ++ _ ++ _ = _
    simp
  rw [ea, e1]
  have e2 := setTo_here (l ++ ((gen jmp d (some false) a ⟨[], []⟩ p (p + szG jmp d (some false) a + szG jmp d m b + 1)).map er ++ gE jmp d m b (p + szG jmp d (some false) a))) (gE jmp d m c (p + szG jmp d (some false) a + szG jmp d m b + 1)) ⟨16, 0, 0⟩ (p + szG jmp d (some false) a + szG jmp d m b + 1 + szG jmp d m c)
  rw [List.length_append, List.length_append, gen_er_len, gE_len, hp, ← Nat.add_assoc] at e2
  have eb : l ++ ((gen jmp d (some false) a ⟨[], []⟩ p (p + szG jmp d (some false) a + szG jmp d m b + 1)).map er ++ (gE jmp d m b (p + szG jmp d (some false) a) ++ [⟨16, 0, 0⟩])) ++ gE jmp d m c (p + szG jmp d (some false) a + szG jmp d m b + 1) = l ++ ((gen jmp d (some false) a ⟨[], []⟩ p (p + szG jmp d (some false) a + szG jmp d m b + 1)).map er ++ gE jmp d m b (p + szG jmp d (some false) a)) ++ (⟨16, 0, 0⟩ :: gE jmp d m c (p + szG jmp d (some false) a + szG jmp d m b + 1)) := by simp
  rw [eb, e2]
  simp
section
variable {jmp : Bool} {d : Nat} {t : Tr} {p : Nat} {this : Bool}
/-- What is not asked by jumps of its own. -/
theorem ask_gE (hj : byJ jmp t.k = false) : gE jmp (d + 1) (some this) t p = gE jmp (d + 1) none t p ++ ((if this then [⟨12, 0, 0⟩] else []) ++ [⟨15, 0, 0⟩]) := by
  have hgen : gen jmp (d + 1) (some this) t ⟨[], []⟩ p 0 = gen jmp (d + 1) none t ⟨[], []⟩ p 0 ++ ((if this then [⟨12, 0, 0, ⟨2 :: [], []⟩⟩] else []) ++ [⟨15, 0, 0, ⟨2 :: [], []⟩⟩]) := by
    simp only [gen, hj]; rfl
  unfold gE
  rw [hgen]
  simp only [List.map_append]
  cases this <;> rfl
theorem ask_sz (hj : byJ jmp t.k = false) : szG jmp (d + 1) (some this) t = szG jmp (d + 1) none t + (if this then 2 else 1) := by simp only [szG, hj]; rfl
theorem ask_dp {b : Nat} (hj : byJ jmp t.k = false) : dpG jmp (d + 1) (some this) t b = dpG jmp (d + 1) none t b := by simp only [dpG, hj]; rfl
theorem ask_jdx (hj : byJ jmp t.k = false) : jdx jmp (d + 1) this t p = [p + szG jmp (d + 1) none t + (if this then 1 else 0)] := by simp only [jdx, hj]; rfl
/-- True, false. -/
theorem word_gE (hj : byJ jmp t.k = true) (hk : t.k = 20 ∨ t.k = 21) : gE jmp (d + 1) (some this) t p = (if this = decide (t.k = 20) then [⟨16, 0, 0⟩] else []) ∧ szG jmp (d + 1) (some this) t = (if this = decide (t.k = 20) then 1 else 0) ∧ (∀ b, dpG jmp (d + 1) (some this) t b = 0) ∧ jdx jmp (d + 1) this t p = (if this = decide (t.k = 20) then [p] else []) := by
  refine ⟨?_, ?_, fun b => ?_, ?_⟩
  · unfold gE; simp only [gen, hj, if_true, if_pos hk]; split <;> rfl
  · simp only [szG, hj, if_true, if_pos hk]
  · simp only [dpG, hj, if_true, if_pos hk]
  · simp only [jdx, hj, if_true, if_pos hk]
/-- Not. -/
theorem not_gE (hj : byJ jmp t.k = true) (hk : t.k = 19) : gE jmp (d + 1) (some this) t p = gE jmp d (some (!this)) (t.kid 0) p ∧ szG jmp (d + 1) (some this) t = szG jmp d (some (!this)) (t.kid 0) ∧ (∀ b, dpG jmp (d + 1) (some this) t b = dpG jmp d (some (!this)) (t.kid 0) b) ∧ jdx jmp (d + 1) this t p = jdx jmp d (!this) (t.kid 0) p := by
  have h2 : ¬ (t.k = 20 ∨ t.k = 21) := by omega
  refine ⟨?_, ?_, fun b => ?_, ?_⟩
  · unfold gE; simp only [gen, hj, if_true, if_neg h2, if_pos hk]
  · simp only [szG, hj, if_true, if_neg h2, if_pos hk]
  · simp only [dpG, hj, if_true, if_neg h2, if_pos hk]
  · simp only [jdx, hj, if_true, if_neg h2, if_pos hk]
/-- If. -/
theorem if_gE (hj : byJ jmp t.k = true) (hk : t.k = 14) :
    gE jmp (d + 1) (some this) t p = (gen jmp d (some false) (t.kid 0) ⟨[], []⟩ p (p + szG jmp d (some false) (t.kid 0) + szG jmp d (some this) (t.kid 1) + 1)).map er ++ (gE jmp d (some this) (t.kid 1) (p + szG jmp d (some false) (t.kid 0)) ++ (⟨16, 0, p + szG jmp d (some false) (t.kid 0) + szG jmp d (some this) (t.kid 1) + 1 + szG jmp d (some this) (t.kid 2)⟩ :: gE jmp d (some this) (t.kid 2) (p + szG jmp d (some false) (t.kid 0) + szG jmp d (some this) (t.kid 1) + 1)))
    ∧ szG jmp (d + 1) (some this) t = szG jmp d (some false) (t.kid 0) + szG jmp d (some this) (t.kid 1) + 1 + szG jmp d (some this) (t.kid 2)
    ∧ (∀ b, dpG jmp (d + 1) (some this) t b = max (dpG jmp d (some false) (t.kid 0) b) (max (dpG jmp d (some this) (t.kid 1) b) (dpG jmp d (some this) (t.kid 2) b)))
    ∧ jdx jmp (d + 1) this t p = jdx jmp d this (t.kid 1) (p + szG jmp d (some false) (t.kid 0)) ++ jdx jmp d this (t.kid 2) (p + szG jmp d (some false) (t.kid 0) + szG jmp d (some this) (t.kid 1) + 1) := by
  have h2 : ¬ (t.k = 20 ∨ t.k = 21) := by omega
  have h3 : ¬ t.k = 19 := by omega
  refine ⟨?_, ?_, fun b => ?_, ?_⟩
  · unfold gE; simp only [gen, hj, if_true, if_neg h2, if_neg h3, if_pos hk, List.map_append, List.map_cons, er]
  · simp only [szG, hj, if_true, if_neg h2, if_neg h3, if_pos hk]
  · simp only [dpG, hj, if_true, if_neg h2, if_neg h3, if_pos hk]
  · simp only [jdx, hj, if_true, if_neg h2, if_neg h3, if_pos hk]
/-- And, or. -/
theorem join_gE (hj : byJ jmp t.k = true) (hk : t.k = 17 ∨ t.k = 18) :
    gE jmp (d + 1) (some this) t p = (gen jmp d (some (decide (t.k = 17))) (t.kid 0) ⟨[], []⟩ p (if this = decide (t.k = 17) then 0 else p + szG jmp d (some (decide (t.k = 17))) (t.kid 0) + szG jmp d (some this) (t.kid 1))).map er ++ gE jmp d (some this) (t.kid 1) (p + szG jmp d (some (decide (t.k = 17))) (t.kid 0))
    ∧ szG jmp (d + 1) (some this) t = szG jmp d (some (decide (t.k = 17))) (t.kid 0) + szG jmp d (some this) (t.kid 1)
    ∧ (∀ b, dpG jmp (d + 1) (some this) t b = max (dpG jmp d (some (decide (t.k = 17))) (t.kid 0) b) (dpG jmp d (some this) (t.kid 1) b))
    ∧ jdx jmp (d + 1) this t p = (if this = decide (t.k = 17) then jdx jmp d (decide (t.k = 17)) (t.kid 0) p else []) ++ jdx jmp d this (t.kid 1) (p + szG jmp d (some (decide (t.k = 17))) (t.kid 0)) := by
  have h2 : ¬ (t.k = 20 ∨ t.k = 21) := by omega
  have h3 : ¬ t.k = 19 := by omega
  have h4 : ¬ t.k = 14 := by omega
  refine ⟨?_, ?_, fun b => ?_, ?_⟩
  · unfold gE; simp only [gen, hj, if_true, if_neg h2, if_neg h3, if_neg h4, List.map_append]
  · simp only [szG, hj, if_true, if_neg h2, if_neg h3, if_neg h4]
  · simp only [dpG, hj, if_true, if_neg h2, if_neg h3, if_neg h4]
  · simp only [jdx, hj, if_true, if_neg h2, if_neg h3, if_neg h4]
/-- Laid: sizes and depths. -/
theorem lay_if (hk : t.k = 14) : szG jmp (d + 1) none t = szG jmp d (some false) (t.kid 0) + szG jmp d none (t.kid 1) + 1 + szG jmp d none (t.kid 2) ∧ (∀ b, dpG jmp (d + 1) none t b = max (dpG jmp d (some false) (t.kid 0) b) (max (dpG jmp d none (t.kid 1) b) (dpG jmp d none (t.kid 2) b)))
    ∧ gE jmp (d + 1) none t p = (gen jmp d (some false) (t.kid 0) ⟨[], []⟩ p (p + szG jmp d (some false) (t.kid 0) + szG jmp d none (t.kid 1) + 1)).map er ++ (gE jmp d none (t.kid 1) (p + szG jmp d (some false) (t.kid 0)) ++ (⟨16, 0, p + szG jmp d (some false) (t.kid 0) + szG jmp d none (t.kid 1) + 1 + szG jmp d none (t.kid 2)⟩ :: gE jmp d none (t.kid 2) (p + szG jmp d (some false) (t.kid 0) + szG jmp d none (t.kid 1) + 1))) := by
  refine ⟨by simp only [szG, if_pos hk], fun b => by simp only [dpG, if_pos hk], ?_⟩
  unfold gE; simp only [gen, if_pos hk, List.map_append, List.map_cons, er]
theorem lay_not (hk : t.k = 19) : szG jmp (d + 1) none t = szG jmp d none (t.kid 0) + 1 ∧ ∀ b, dpG jmp (d + 1) none t b = dpG jmp d none (t.kid 0) b := by
  have h : ¬ t.k = 14 := by omega
  exact ⟨by simp only [szG, if_neg h, if_pos hk], fun b => by simp only [dpG, if_neg h, if_pos hk]⟩
theorem lay_two (h14 : t.k ≠ 14) (h19 : t.k ≠ 19) (hk : t.kids.length = 2) : szG jmp (d + 1) none t = szG jmp d none (t.kid 0) + szG jmp d none (t.kid 1) + 1 ∧ ∀ b, dpG jmp (d + 1) none t b = max (dpG jmp d none (t.kid 0) b) (dpG jmp d none (t.kid 1) (b + 1)) :=
  ⟨by simp only [szG, if_neg h14, if_neg h19, if_pos hk], fun b => by simp only [dpG, if_neg h14, if_neg h19, if_pos hk]⟩
theorem lay_leaf (h14 : t.k ≠ 14) (h19 : t.k ≠ 19) (hk : t.kids.length ≠ 2) : szG jmp (d + 1) none t = 1 ∧ ∀ b, dpG jmp (d + 1) none t b = b + 1 :=
  ⟨by simp only [szG, if_neg h14, if_neg h19, if_neg hk], fun b => by simp only [dpG, if_neg h14, if_neg h19, if_neg hk]⟩
/-- Open jumps lie among the instructions. -/
theorem jdx_in (d : Nat) : ∀ {t : Tr} {this : Bool} {p : Nat}, ∀ j ∈ jdx jmp d this t p, p ≤ j ∧ j < p + szG jmp d (some this) t := by
  induction d with
  | zero => intro t this p j hj; simp [jdx] at hj
  | succ d ih =>
    intro t this p j hj
    cases hb : byJ jmp t.k with
    | false =>
      rw [ask_jdx hb] at hj
      rw [ask_sz hb]
      simp at hj
      subst hj
      cases this <;> simp <;> omega
    | true =>
      by_cases h2 : t.k = 20 ∨ t.k = 21
      · obtain ⟨_, e2, _, e4⟩ := word_gE (d := d) (p := p) (this := this) hb h2
        rw [e4] at hj; rw [e2]
        split at hj
        · rename_i h; rw [if_pos h]; simp at hj; omega
        · simp at hj
      · by_cases h3 : t.k = 19
        · obtain ⟨_, e2, _, e4⟩ := not_gE (d := d) (p := p) (this := this) hb h3
          rw [e4] at hj; rw [e2]; exact ih j hj
        · by_cases h4 : t.k = 14
          · obtain ⟨_, e2, _, e4⟩ := if_gE (d := d) (p := p) (this := this) hb h4
            rw [e4] at hj; rw [e2]
            rcases List.mem_append.1 hj with hj | hj
            · have := ih j hj; omega
            · have := ih j hj; omega
          · have h5 : t.k = 17 ∨ t.k = 18 := by unfold byJ at hb; simp at hb; omega
            obtain ⟨_, e2, _, e4⟩ := join_gE (d := d) (p := p) (this := this) hb h5
            rw [e4] at hj; rw [e2]
            rcases List.mem_append.1 hj with hj | hj
            · split at hj
              · have := ih j hj; omega
              · simp at hj
            · have := ih j hj; omega
theorem jdx_len (d : Nat) : ∀ {t : Tr} {this : Bool} {p : Nat}, (jdx jmp d this t p).length ≤ szG jmp d (some this) t := by
  induction d with
  | zero => intro t this p; simp [jdx]
  | succ d ih =>
    intro t this p
    cases hb : byJ jmp t.k with
    | false => rw [ask_jdx hb, ask_sz hb]; cases this <;> simp
    | true =>
      by_cases h2 : t.k = 20 ∨ t.k = 21
      · obtain ⟨_, e2, _, e4⟩ := word_gE (d := d) (p := p) (this := this) hb h2
        rw [e4, e2]; split <;> simp
      · by_cases h3 : t.k = 19
        · obtain ⟨_, e2, _, e4⟩ := not_gE (d := d) (p := p) (this := this) hb h3
          rw [e4, e2]; exact ih
        · by_cases h4 : t.k = 14
          · obtain ⟨_, e2, _, e4⟩ := if_gE (d := d) (p := p) (this := this) hb h4
            rw [e4, e2, List.length_append]
            have a1 := @ih (t.kid 1) this (p + szG jmp d (some false) (t.kid 0))
            have a2 := @ih (t.kid 2) this (p + szG jmp d (some false) (t.kid 0) + szG jmp d (some this) (t.kid 1) + 1)
            omega
          · have h5 : t.k = 17 ∨ t.k = 18 := by unfold byJ at hb; simp at hb; omega
            obtain ⟨_, e2, _, e4⟩ := join_gE (d := d) (p := p) (this := this) hb h5
            rw [e4, e2, List.length_append]
            have a1 := @ih (t.kid 0) (decide (t.k = 17)) p
            have a2 := @ih (t.kid 1) this (p + szG jmp d (some (decide (t.k = 17))) (t.kid 0))
            split
            · omega
            · simp; omega
end
end Go.Proofs.YtfkdailfcmnjlaaGreatDoor

namespace Go.Proofs.YtfkdailfcmnjlaaGreatDoor
open Go Go.RowKit
set_option maxRecDepth 100000
attribute [local go_sem ↓] Go.wp_at_zero Go.wp_at_succ

/-- A row of one number, just made. -/
theorem ir_new (w : World) (x : Int) : IR (w.alloc (.cells #[.int .i64 x] 3)) 3 (.slice (some ⟨w.heap.size, 0, none⟩) 1 1) [x] := by
  refine ⟨rfl, .inr ⟨w.heap.size, 1, #[.int .i64 x], rfl, Nat.zero_le _, heap_alloc_new w _, Nat.le_refl _, by unfold maxLen; omega, rfl, rfl⟩⟩
/-- What lies beneath a part with kids. -/
theorem node_under {F : Nat → Prop} {W0 : World} {b : Nat} {t : Tr} {pl : Int} {nm : List UInt8} {u : Value} {bl : Nat → Nat} (h : ∀ W, Only F W0 W → NodeAt W b t pl nm u bl) (h0 : 0 < t.kids.length) :
    ∃ g cap, ∀ W, Only F W0 W → W.cell? ⟨b, 0, none⟩ = some (.int .i64 t.k) ∧ W.cell? ⟨b, 4, none⟩ = some (.slice (some ⟨g, 0, none⟩) t.kids.length cap) ∧ ∀ j, j < t.kids.length → W.cell? ⟨g, j, none⟩ = some (.pointer (some ⟨bl j, 0, none⟩)) := by
  obtain ⟨a, cap, e, hc⟩ := (h W0 (Only.refl _ _)).un
  obtain ⟨g, ea, _⟩ := hc 0 h0
  refine ⟨g, cap, fun W hb => ?_⟩
  obtain ⟨a', cap', e', hc'⟩ := (h W hb).un
  have hh := (h W hb).cc
  rw [e] at e'
  simp only [Value.slice.injEq, true_and] at e'
  obtain ⟨rfl, rfl⟩ := e'
  refine ⟨hh.c0, by rw [hh.c4, e, ea], fun j hj => ?_⟩
  obtain ⟨g', ea', c⟩ := hc' j hj
  rw [ea] at ea'
  simp only [Option.some.injEq, Addr.mk.injEq, and_true] at ea'
  rw [ea']; exact c
set_option maxHeartbeats 4000000 in
theorem layChosen_ok {jmp : Bool} {d : Nat} (HL : LayOK jmp d) (HJ : JumpOK jmp d) {F : Nat → Prop} {t : Tr} {w0 w : World} {lp b bn dep cells : Nat} {v : Value} {l : List L3} (hw : WfT (d + 1) t) (hk : t.k = 14) (hT : TrF F (d + 1) w0 b t) (h : LyW F w0 w lp jmp v l dep cells) (hsz : l.length + szG jmp (d + 1) none t ≤ 4900) (hbn : bn + (d + 1) ≤ 1000) (hdp : dep ≤ 1000) :
    Calls Tryz.prog 179 #[.pointer (some ⟨lp, 0, none⟩), .pointer (some ⟨b, 0, none⟩), .int .i64 bn] w fun e w' => e = .returned (.tuple #[]) ∧ LyOut w w' lp jmp v (l ++ gE jmp (d + 1) none t l.length) (max dep (dpG jmp (d + 1) none t bn)) cells := by
  obtain ⟨es, ed, eg⟩ := lay_if (jmp := jmp) (d := d) (p := l.length) hk
  rw [es] at hsz
  rw [ed, eg]
  clear es ed eg
  obtain ⟨ka, kb, kc, hkids⟩ : ∃ ka kb kc, t.kids = [ka, kb, kc] := by
    rcases hw.1 with ⟨h1, _⟩ | ⟨h1, _⟩ | ⟨_, h2⟩ | ⟨h1, _⟩
    · unfold leafK at h1; omega
    · omega
    · exact h2
    · unfold twoK at h1; omega
  have hlen : t.kids.length = 3 := by rw [hkids]; rfl
  obtain ⟨pl, nm, u, bl, HN, HK⟩ := tr_node hT
  obtain ⟨g, cap, HF⟩ := node_under HN (by omega)
  have hwk : ∀ j, j < 3 → WfT d (t.kid j) := fun j hj => hw.2 _ (by
    unfold Tr.kid
    rw [List.getD_eq_getElem?_getD, List.getElem?_eq_getElem (by omega)]
    exact List.getElem_mem _)
  have HT := fun j (hj : j < 3) => HK j (by omega)
  rw [hlen] at HF
  have FC : Hid (∀ W, Only F w0 W → W.cell? ⟨b, 4, none⟩ = some (.slice (some ⟨g, 0, none⟩) 3 cap) ∧ W.cell? ⟨g, 0, none⟩ = some (.pointer (some ⟨bl 0, 0, none⟩)) ∧ W.cell? ⟨g, 1, none⟩ = some (.pointer (some ⟨bl 1, 0, none⟩)) ∧ W.cell? ⟨g, 2, none⟩ = some (.pointer (some ⟨bl 2, 0, none⟩))) := fun W hb => ⟨(HF W hb).2.1, (HF W hb).2.2 0 (by omega), (HF W hb).2.2 1 (by omega), (HF W hb).2.2 2 (by omega)⟩
  have hd0 := dpG_le jmp d (some false) (t.kid 0) bn
  have hd1 := dpG_le jmp d none (t.kid 1) bn
  have hd2 := dpG_le jmp d none (t.kid 2) bn
  have HLI : Hid _ := list_if (jmp := jmp) (d := d) (a := t.kid 0) (b := t.kid 1) (c := t.kid 2) (m := none) (l := l) (p := l.length) rfl (hwk 0 (by omega))
  have hja := @jdx_in jmp d (t.kid 0) false l.length
  have hjl := @jdx_len jmp d (t.kid 0) false l.length
  clear hT HN HK HF hw hkids hlen
  have lA := gE_len jmp d (some false) (t.kid 0) l.length
  have lB := gE_len jmp d none (t.kid 1) (l.length + szG jmp d (some false) (t.kid 0))
  have HB : Hid _ := h
  have W1 := HJ (this := false) (bn := bn) (hwk 0 (by omega)) (HT 0 (by omega)) h (by omega) (by omega) hdp
  obtain ⟨c4, c0, _, _⟩ := FC.out w h.bel
  clear h
  have HWk : Hid _ := hwk
  have HTk : Hid _ := HT
  have HJA : Hid _ := hja
  clear hwk HT hja
  go_enter Tryz.func179, Tryz.ntmps179
  go_wp2_with fail
  refine W1.mono ?_
  rintro e w1 ⟨jv, rfl, hir1, _, hout1⟩
  obtain ⟨v1, h1, k1, z1, g1⟩ := HB.out.next hout1
  have W2 := HL (bn := bn) (HWk.out 1 (by omega)) (HTk.out 1 (by omega)) h1 (by rw [List.length_append, lA]; omega) (by omega) (by omega)
  rw [List.length_append, lA] at W2
  obtain ⟨d4, _, d1, _⟩ := FC.out w1 h1.bel
  clear W1 hout1 c4 c0 k1
  have HB1 : Hid _ := h1
  have HG1 : Hid _ := @g1
  have HI1 : Hid _ := hir1
  clear h1 g1 hir1
  go_wp2_with fail
  refine W2.mono ?_
  rintro e w2 ⟨rfl, hout2⟩
  obtain ⟨v2, h2, k2, z2, g2⟩ := HB1.out.next hout2
  have HI2 : Hid _ := k2 HI1.out
  have W3 := add_any 16 0 h2.at_ (by simp only [List.length_append, lA, lB]; omega)
  obtain ⟨ix, hix⟩ : ∃ ix : Nat, l.length + szG jmp d (some false) (t.kid 0) + szG jmp d none (t.kid 1) = ix := ⟨_, rfl⟩
  have hJ : (l ++ gE jmp d (some false) (t.kid 0) l.length ++ gE jmp d none (t.kid 1) (l.length + szG jmp d (some false) (t.kid 0))).length = ix := by
    simp only [List.length_append, lA, lB]; exact hix
  rw [hJ] at W3
  have HIX : Hid _ := hix
  have HB2 : Hid _ := h2
  have HG2 : Hid _ := @g2
  clear W2 hout2 d4 d1 k2 h2 g2 HI1 HB1 hJ hix
  go_wp2_with fail
  refine W3.mono ?_
  rintro e w3 ⟨rfl, hout3⟩
  obtain ⟨v3, h3, k3, z3, g3⟩ := HB2.out.next hout3
  have L3l : (l ++ gE jmp d (some false) (t.kid 0) l.length ++ gE jmp d none (t.kid 1) (l.length + szG jmp d (some false) (t.kid 0)) ++ [(⟨16, 0, 0⟩ : L3)]).length = l.length + szG jmp d (some false) (t.kid 0) + szG jmp d none (t.kid 1) + 1 := by
    simp only [List.length_append, lA, lB, List.length_cons, List.length_nil]
  have W4 := comeHere_any (jv := jv) (js := jdx jmp d false (t.kid 0) l.length) h3.at_ (by rw [L3l]; omega) (by omega) (k3 HI2.out) (fun j hj => by have := HJA.out j hj; rw [L3l]; omega)
  rw [L3l] at W4
  have HB3 : Hid _ := h3
  have HG3 : Hid _ := @g3
  clear W3 hout3 k3 h3 g3 HI2 HB2
  go_wp2_with fail
  refine W4.mono ?_
  rintro e w4 ⟨rfl, hout4⟩
  obtain ⟨v4, h4, k4, z4, g4⟩ := HB3.out.next hout4
  have L4l := setAll_len (jdx jmp d false (t.kid 0) l.length) (l ++ gE jmp d (some false) (t.kid 0) l.length ++ gE jmp d none (t.kid 1) (l.length + szG jmp d (some false) (t.kid 0)) ++ [(⟨16, 0, 0⟩ : L3)]) (l.length + szG jmp d (some false) (t.kid 0) + szG jmp d none (t.kid 1) + 1)
  rw [L3l] at L4l
  have W5 := HL (bn := bn) (HWk.out 2 (by omega)) (HTk.out 2 (by omega)) h4 (by rw [L4l]; omega) (by omega) (by omega)
  rw [L4l] at W5
  obtain ⟨d4, _, _, d2⟩ := FC.out w4 h4.bel
  have HB4 : Hid _ := h4
  have HG4 : Hid _ := @g4
  clear W4 hout4 k4 h4 g4 HB3
  go_wp2_with fail
  refine W5.mono ?_
  rintro e w5 ⟨rfl, hout5⟩
  obtain ⟨v5, h5, k5, z5, g5⟩ := HB4.out.next hout5
  have hbA : Below w5.heap.size w5 (w5.alloc (.cells #[.int .i64 (ix : Nat)] 3)) := (Below.refl _ _).alloc (Nat.le_refl _) _
  have L5l : (setAll (l ++ gE jmp d (some false) (t.kid 0) l.length ++ gE jmp d none (t.kid 1) (l.length + szG jmp d (some false) (t.kid 0)) ++ [(⟨16, 0, 0⟩ : L3)]) (jdx jmp d false (t.kid 0) l.length) (l.length + szG jmp d (some false) (t.kid 0) + szG jmp d none (t.kid 1) + 1) ++ gE jmp d none (t.kid 2) (l.length + szG jmp d (some false) (t.kid 0) + szG jmp d none (t.kid 1) + 1)).length = l.length + szG jmp d (some false) (t.kid 0) + szG jmp d none (t.kid 1) + 1 + szG jmp d none (t.kid 2) := by
    rw [List.length_append, L4l, gE_len]
  have W6 := comeHere_any (js := [ix]) (h5.below hbA).at_ (by rw [L5l]; omega) (by simp) (ir_new w5 _) (fun j hj => by simp only [List.mem_singleton] at hj; have := HIX.out; rw [hj, L5l]; omega)
  have HB5 : Hid _ := h5
  have HG5 : Hid _ := @g5
  have HBA : Hid _ := hbA
  clear W5 hout5 k5 h5 g5 HB4 d4 d2 hbA
  go_wp2_with fail
  refine W6.mono ?_
  rintro e w6 ⟨rfl, hout6⟩
  clear W6
  go_wp2_with fail
  go_end0
  refine ⟨rfl, ?_⟩
  have hf := HG1.out (HG2.out (HG3.out (HG4.out (HG5.out (LyOut.from HBA.out hout6)))))
  rw [setAll_one, L5l, ← HIX.out, HLI.out] at hf
  have em : max (max (max dep (dpG jmp d (some false) (t.kid 0) bn)) (dpG jmp d none (t.kid 1) bn)) (dpG jmp d none (t.kid 2) bn) = max dep (max (dpG jmp d (some false) (t.kid 0) bn) (max (dpG jmp d none (t.kid 1) bn) (dpG jmp d none (t.kid 2) bn))) := by omega
  rw [em] at hf
  exact hf
end Go.Proofs.YtfkdailfcmnjlaaGreatDoor

namespace Go.Proofs.YtfkdailfcmnjlaaGreatDoor
open Go Go.RowKit
set_option maxRecDepth 100000
attribute [local go_sem ↓] Go.wp_at_zero Go.wp_at_succ

/-- The depth told anew. -/
theorem LyOut.dep {w w1 : World} {lp : Nat} {jmp : Bool} {v : Value} {l : List L3} {dep cells : Nat} (h : LyOut w w1 lp jmp v l dep cells) (x : Nat) : LyOut w (w1.setCell ⟨lp, 2, none⟩ (.int .i64 (x : Nat))) lp jmp v l x cells := by
  obtain ⟨v1, a1, o1, f1⟩ := h
  refine ⟨v1, ⟨?_, ?_⟩, o1.setCell (.inl (.inl rfl)) _, f1⟩
  · rw [heap_setCell_same w1 lp 2 _ _ _ a1.blk]; rfl
  · exact ownsRow_setCell_other a1.row (a := ⟨lp, 2, none⟩) a1.ne _
theorem kid_wf {d : Nat} {t : Tr} (hw : WfT (d + 1) t) {j : Nat} (hj : j < t.kids.length) : WfT d (t.kid j) := hw.2 _ (by
  unfold Tr.kid
  rw [List.getD_eq_getElem?_getD, List.getElem?_eq_getElem hj]
  exact List.getElem_mem _)
set_option maxHeartbeats 4000000 in
theorem lay_ok {jmp : Bool} {d : Nat} (HL : LayOK jmp d) (HJ : JumpOK jmp d) : LayOK jmp (d + 1) := by
  intro F t w0 w lp b bn dep cells v l hw hT h hsz hbn hdp
  obtain ⟨pl, nm, u, bl, HN, HK⟩ := tr_node hT
  have c0 := (HN w h.bel).cc.c0
  rcases hw.1 with ⟨hk, hkids, _⟩ | ⟨hk, ka, hkids⟩ | ⟨hk, _⟩ | ⟨hk, ka, kb, hkids⟩
  · have h14 : t.k ≠ 14 := by unfold leafK at hk; omega
    have h19 : t.k ≠ 19 := by unfold leafK at hk; omega
    have hl2 : t.kids.length ≠ 2 := by rw [hkids]; decide
    obtain ⟨es, ed⟩ := lay_leaf (jmp := jmp) (d := d) h14 h19 hl2
    rw [gE_leaf h14 h19 hl2, ed]
    have W1 := layWord_any h.at_ (by omega) hk (HN w h.bel).cc
    have ew : wordOp ⟨t.k, t.n, t.l, []⟩ = wordOp t ∧ wordN ⟨t.k, t.n, t.l, []⟩ = wordN t := ⟨rfl, rfl⟩
    rw [ew.1, ew.2] at W1
    obtain ⟨a, cap, eu, _⟩ := (HN w h.bel).un
    have c4 : w.cell? ⟨b, 4, none⟩ = some (.slice a t.kids.length cap) := by rw [(HN w h.bel).cc.c4, eu]
    rw [hkids] at c4
    have hi14 : ((t.k : Int) == 14) = false := by simp; omega
    have hi19 : ((t.k : Int) == 19) = false := by simp; omega
    have HB : Hid _ := h
    clear h HN HK hT hw ew es ed hkids hl2 hk h14 h19 hsz
    generalize wordOp t = op at *
    generalize wordN t = n at *
    generalize t.k = k at *
    go_enter Tryz.func133, Tryz.ntmps133
    go_wp2_with fail
    refine W1.mono ?_
    rintro e w1 ⟨rfl, hout1⟩
    have HO : Hid (LyOut w w1 lp jmp v (l ++ [⟨op, n, 0⟩]) dep cells) := hout1
    obtain ⟨v1, a1, _, _⟩ := hout1
    have p2 : w1.cell? ⟨lp, 2, none⟩ = some (.int .i64 (dep : Nat)) := cell_of_row w1 lp 2 _ _ _ a1.blk
    have pf : w1.frozen? ⟨lp, 2, none⟩ = false := by simp [World.frozen?, a1.blk]
    clear a1 W1 c0 c4
    by_cases hm : bn + 1 ≤ dep
    · have i1 : max (dep : Int) ((bn : Int) + 1) = (dep : Int) := by omega
      have i2 : ¬ (dep : Int) < (bn : Int) + 1 := by omega
      have i3 : (bn : Int) + 1 ≤ (dep : Int) := by omega
      have EM : Hid (max dep (bn + 1) = dep) := by show _ = _; omega
      go_wp2_with fail
      go_end0
      refine ⟨rfl, ?_⟩
      rw [EM.out]
      exact LyOut.dep HO.out dep
    · have i1 : max (dep : Int) ((bn : Int) + 1) = (bn : Int) + 1 := by omega
      have i2 : (dep : Int) < (bn : Int) + 1 := by omega
      have i3 : ¬ (bn : Int) + 1 ≤ (dep : Int) := by omega
      have EM : Hid (max dep (bn + 1) = bn + 1) := by show _ = _; omega
      go_wp2_with fail
      go_end0
      refine ⟨rfl, ?_⟩
      rw [EM.out]
      exact LyOut.dep HO.out (bn + 1)
  · have hl1 : t.kids.length = 1 := by rw [hkids]; rfl
    obtain ⟨es, ed⟩ := lay_not (jmp := jmp) (d := d) hk
    rw [gE_not hk, ed]
    rw [es] at hsz
    obtain ⟨g, cap, HF⟩ := node_under HN (by omega)
    rw [hl1] at HF
    have W1 := HL (bn := bn) (kid_wf hw (j := 0) (by omega)) (HK 0 (by omega)) h (by omega) (by omega) hdp
    obtain ⟨_, c4, hg⟩ := HF w h.bel
    have q0 := hg 0 (by omega)
    have lA := gE_len jmp d none (t.kid 0) l.length
    rw [hk] at c0
    have HB : Hid _ := h
    clear h HN HK hT hw hkids HF hg es ed
    go_enter Tryz.func133, Tryz.ntmps133
    go_wp2_with fail
    refine W1.mono ?_
    rintro e w1 ⟨rfl, hout1⟩
    obtain ⟨v1, h1, _, _, g1⟩ := HB.out.next hout1
    have W2 := add_any 12 0 h1.at_ (by rw [List.length_append, lA]; omega)
    have HG1 : Hid _ := @g1
    clear W1 h1 g1 hout1 c0 c4 q0 lA
    generalize (l ++ gE jmp d none (t.kid 0) l.length).length = ix at *
    go_wp2_with fail
    refine W2.mono ?_
    rintro e w2 ⟨rfl, hout2⟩
    have HO2 : Hid _ := hout2
    clear W2 hout2
    go_wp2_with fail
    refine bodyPost_ret (v := .tuple #[]) (by simp [results, Tryz.results133, go_sem]) rfl ?_
    refine ⟨rfl, ?_⟩
    have hf := HG1.out HO2.out
    rw [List.append_assoc] at hf
    exact hf
  · have W1 := layChosen_ok HL HJ hw hk hT h hsz hbn hdp
    rw [hk] at c0
    clear h HN HK hT hw hsz
    go_enter Tryz.func133, Tryz.ntmps133
    go_wp2_with fail
    refine W1.mono ?_
    rintro e w1 ⟨rfl, hout1⟩
    have HO : Hid _ := hout1
    clear W1 hout1
    go_wp2_with fail
    refine bodyPost_ret (v := .tuple #[]) (by simp [results, Tryz.results133, go_sem]) rfl ?_
    exact ⟨rfl, HO.out⟩
  · have h14 : t.k ≠ 14 := by unfold twoK at hk; omega
    have h19 : t.k ≠ 19 := by unfold twoK at hk; omega
    have hl2 : t.kids.length = 2 := by rw [hkids]; rfl
    obtain ⟨es, ed⟩ := lay_two (jmp := jmp) (d := d) h14 h19 hl2
    rw [gE_two h14 h19 hl2, ed]
    rw [es] at hsz
    obtain ⟨g, cap, HF⟩ := node_under HN (by omega)
    rw [hl2] at HF
    have FC : Hid (∀ W, Only F w0 W → W.cell? ⟨b, 0, none⟩ = some (.int .i64 t.k) ∧ W.cell? ⟨b, 4, none⟩ = some (.slice (some ⟨g, 0, none⟩) 2 cap) ∧ W.cell? ⟨g, 0, none⟩ = some (.pointer (some ⟨bl 0, 0, none⟩)) ∧ W.cell? ⟨g, 1, none⟩ = some (.pointer (some ⟨bl 1, 0, none⟩))) := fun W hb => ⟨(HF W hb).1, (HF W hb).2.1, (HF W hb).2.2 0 (by omega), (HF W hb).2.2 1 (by omega)⟩
    have W1 := HL (bn := bn) (kid_wf hw (j := 0) (by omega)) (HK 0 (by omega)) h (by omega) (by omega) hdp
    have HW1 : Hid _ := kid_wf hw (j := 1) (by omega)
    have HT1 : Hid _ := HK 1 (by omega)
    obtain ⟨_, c4, q0, _⟩ := FC.out w h.bel
    have lA := gE_len jmp d none (t.kid 0) l.length
    have lB := gE_len jmp d none (t.kid 1) (l.length + szG jmp d none (t.kid 0))
    have hd0 := dpG_le jmp d none (t.kid 0) bn
    have W4 := fun W => over_any t.k hk W
    have hi14 : ((t.k : Int) == 14) = false := by simp; omega
    have hi19 : ((t.k : Int) == 19) = false := by simp; omega
    have HB : Hid _ := h
    clear h HN HK hT hw hkids HF es ed h14 h19 hk
    generalize t.k = k at *
    go_enter Tryz.func133, Tryz.ntmps133
    go_wp2_with fail
    refine W1.mono ?_
    rintro e w1 ⟨rfl, hout1⟩
    obtain ⟨v1, h1, _, _, g1⟩ := HB.out.next hout1
    have W2 := HL (bn := bn + 1) HW1.out HT1.out h1 (by rw [List.length_append, lA]; omega) (by omega) (by omega)
    rw [List.length_append, lA] at W2
    have HW2 : Hid _ := W2
    have eb : ((bn + 1 : Nat) : Int) = (bn : Int) + 1 := by omega
    rw [eb] at W2
    obtain ⟨_, d4, _, d1⟩ := FC.out w1 h1.bel
    have HG1 : Hid _ := @g1
    have HB1 : Hid _ := h1
    clear W1 h1 g1 hout1 c0 c4 q0 eb HW2
    go_wp2_with fail
    refine W2.mono ?_
    rintro e w2 ⟨rfl, hout2⟩
    obtain ⟨v2, h2, _, _, g2⟩ := HB1.out.next hout2
    have W3 := add_any (overOp k) 0 h2.at_ (by simp only [List.length_append, lA, lB]; omega)
    obtain ⟨e0, _, _, _⟩ := FC.out w2 h2.bel
    have HG2 : Hid _ := @g2
    clear W2 h2 g2 hout2 d4 d1 lA lB
    generalize (l ++ gE jmp d none (t.kid 0) l.length ++ gE jmp d none (t.kid 1) (l.length + szG jmp d none (t.kid 0))).length = ix at *
    generalize hop : overOp k = op at *
    have HOP : Hid _ := hop
    clear hop
    go_wp2_with (first
      | (go_at_call 180; refine (W4 _).mono ?_; rintro e w' ⟨rfl, hw'⟩; have hw2 := hw'.symm; clear hw'; subst hw2)
      | fail)
    refine W3.mono ?_
    rintro e w3 ⟨rfl, hout3⟩
    have HO3 : Hid _ := hout3
    clear W3 hout3
    go_wp2_with fail
    refine bodyPost_ret (v := .tuple #[]) (by simp [results, Tryz.results133, go_sem]) rfl ?_
    refine ⟨rfl, ?_⟩
    have hf := HG1.out (HG2.out HO3.out)
    rw [List.append_assoc, List.append_assoc] at hf
    have em : max (max dep (dpG jmp d none (t.kid 0) bn)) (dpG jmp d none (t.kid 1) (bn + 1)) = max dep (max (dpG jmp d none (t.kid 0) bn) (dpG jmp d none (t.kid 1) (bn + 1))) := by omega
    rw [em, ← HOP.out] at hf
    exact hf
end Go.Proofs.YtfkdailfcmnjlaaGreatDoor
