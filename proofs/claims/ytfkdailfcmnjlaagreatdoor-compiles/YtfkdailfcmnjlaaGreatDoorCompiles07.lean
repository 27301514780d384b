/-
  The reference's function 'words' answers as the plain lexer does.
-/
import Derived.Test.YtfkdailfcmnjlaaGreatDoorCompiles01
import Derived.Test.YtfkdailfcmnjlaaGreatDoorCompiles04
import Derived.Test.YtfkdailfcmnjlaaGreatDoorCompiles05
import Derived.Test.YtfkdailfcmnjlaaGreatDoorCompiles06
import Derived.Deep.AppendLies
import Derived.WalkKit
import Derived.Deep.QuietTactic
import Derived.BigQuiet
import Derived.WalkSpells
import GoSem.Op.String
set_option linter.unusedVariables false
set_option linter.unusedSimpArgs false
namespace Go.Proofs.YtfkdailfcmnjlaaGreatDoor
open Go Go.RowKit
set_option maxRecDepth 100000

theorem info_word : (Tryz.prog.info? 151).map (fun i => (i.zero, i.size, i.bytes)) = some (some (.agg #[.int .u8 0, .string ⟨#[]⟩, .int .i64 0]), 3, 32) := by kernel_rfl

/-- The cells of words, one behind the other. -/
def tokCells (ts : List Tok) : List Value := ts.flatMap fun t => [.int .u8 t.k, S t.text, .int .i64 t.pl]
theorem tokCells_snoc (ts : List Tok) (t : Tok) : tokCells (ts ++ [t]) = tokCells ts ++ [.int .u8 t.k, S t.text, .int .i64 t.pl] := by simp [tokCells]

theorem cell_three_new (w : World) (a b c : Value) (t : TypeId) : ∀ j u, [a, b, c][j]? = some u → (w.alloc (.cells #[a, b, c] t)).cell? ((⟨w.heap.size, 0, none⟩ : Addr).add j) = some u := by
  intro j u hj
  match j, hj with
  | 0, hj => simp at hj; subst hj; simp [Addr.add]
  | 1, hj => simp at hj; subst hj; simp [Addr.add]
  | 2, hj => simp at hj; subst hj; simp [Addr.add]
  | j + 3, hj => simp at hj

theorem wordAt_len {l : List UInt8} {a : Nat} {t : Tok} (ha : a < l.length) (h : wordAt l a = some t) : 1 ≤ t.text.length ∧ a + t.text.length ≤ l.length ∧ t.pl = a ∧ t.k ≤ 255 := by
  unfold wordAt at h
  have h1 := stop_le isD l a (by omega)
  have h2 := stop_le isL l a (by omega)
  split at h
  · split at h
    · simp at h
    · simp at h; subst h; refine ⟨?_, ?_, rfl, by simp⟩ <;> simp only [cut_len l a _ h1] <;> omega
  · split at h
    · split at h
      · simp at h; subst h; refine ⟨?_, ?_, rfl, by simp⟩ <;> simp only [cut_len l a _ h2] <;> omega
      · split at h
        · simp at h; subst h; refine ⟨?_, ?_, rfl, by simp⟩ <;> simp only [cut_len l a _ h2] <;> omega
        · simp at h
    · rw [List.getElem?_eq_getElem ha] at h
      simp only at h
      split at h
      · split at h
        · simp at h; subst h
          rename_i h3
          have : a + 1 < l.length := by
            rcases Nat.lt_or_ge (a + 1) l.length with h4 | h4
            · exact h4
            · rw [List.getD_eq_getElem?_getD, List.getElem?_eq_none h4] at h3; simp at h3
          simp; omega
        · simp at h; subst h; simp; omega
      · split at h
        · simp at h; subst h; simp; omega
        · simp at h

/-- What 'words' answers. -/
def WordsAns (l : List UInt8) (w : World) (e : Ending) (w' : World) : Prop :=
  Below w.heap.size w w' ∧ match lex (l.length + 1) l 0 with
  | (ts, none) => ∃ g cap, e = .returned (.tuple #[.slice (some ⟨g, 0, none⟩) ts.length cap, .int .i64 (-1)]) ∧ w'.ownsRow w.heap.size 151 3 (.slice (some ⟨g, 0, none⟩) ts.length cap) ts.length (tokCells ts)
  | (_, some p) => e = .returned (.tuple #[.slice none 0 0, .int .i64 p])

theorem b_yes {c : UInt8} (h : (c.toNat : Int) = 32) : isB c = true := by unfold isB; simp; omega
theorem b_or {c : UInt8} (h : ((c.toNat : Int) == 32) = true ∨ ((c.toNat : Int) == 10) = true) : isB c = true := by unfold isB; simp at h ⊢; omega
theorem b_and {c : UInt8} (h : ((c.toNat : Int) == 32) = false ∧ ((c.toNat : Int) == 10) = false) : isB c = false := by unfold isB; simp at h ⊢; omega
theorem ownsRow_below {w w' : World} {base : Nat} {e : TypeId} {size : Nat} {v : Value} {n : Nat} {xs : List Value} (h : w.ownsRow base e size v n xs) (hb : Below w.heap.size w w') : w'.ownsRow base e size v n xs := by
  obtain ⟨h1, h2⟩ := h
  refine ⟨h1, ?_⟩
  rcases h2 with h2 | ⟨g, cap, cur, a, b, c, d⟩
  · exact .inl h2
  · refine .inr ⟨g, cap, cur, a, b, ?_, d⟩
    rw [hb.block g ?_]; exact c
    rcases Nat.lt_or_ge g w.heap.size with hlt | hge
    · exact hlt
    · rw [Array.getElem?_eq_none hge] at c; cases c
theorem cell_three_new2 (w : World) (o : Obj) (a b c : Value) (t : TypeId) : ∀ j u, [a, b, c][j]? = some u → ((w.alloc o).alloc (.cells #[a, b, c] t)).cell? ((⟨w.heap.size + 1, 0, none⟩ : Addr).add j) = some u := by
  have h := cell_three_new (w.alloc o) a b c t
  rw [World.size_alloc] at h; exact h

theorem box_far {w1 w3 : World} {base : Nat} {e : TypeId} {size : Nat} {v : Value} {n : Nat} {xs : List Value} {o1 o2 : Obj} (hown1 : w1.ownsRow base e size v n xs) (hg : ((w1.alloc o1).alloc o2).grownBy w3 v.ownBlock) (i : Nat) :
    w3.cell? ⟨w1.heap.size, i, none⟩ = (w1.alloc o1).cell? ⟨w1.heap.size, i, none⟩ := by
  rw [hg.cell_far ⟨w1.heap.size, i, none⟩ (by simp; omega) (fun h => by have := (hown1.lt _ h.symm).2; simp at this)]
  exact World.cell?_alloc_past _ _ _ (by simp)
theorem below_far {w w1 w3 : World} {e : TypeId} {size : Nat} {v : Value} {n : Nat} {xs : List Value} {o1 o2 : Obj} (hbw1 : Below w.heap.size w w1) (hown1 : w1.ownsRow w.heap.size e size v n xs) (hg : ((w1.alloc o1).alloc o2).grownBy w3 v.ownBlock) : Below w.heap.size w w3 := by
  have h0 := hbw1.size
  exact Below.grown ((hbw1.alloc (by omega) _).alloc (by simp; omega) _) hg (by simp; omega) (fun j hj => (hown1.lt _ hj).1)
theorem below_far1 {w w1 w3 : World} {e : TypeId} {size : Nat} {v : Value} {n : Nat} {xs : List Value} {o1 : Obj} (hbw1 : Below w.heap.size w w1) (hown1 : w1.ownsRow w.heap.size e size v n xs) (hg : (w1.alloc o1).grownBy w3 v.ownBlock) : Below w.heap.size w w3 := by
  have h0 := hbw1.size
  exact Below.grown (hbw1.alloc (by omega) _) hg (by simp; omega) (fun j hj => (hown1.lt _ hj).1)
theorem lex_none (l : List UInt8) (k f j : Nat) (hf : 0 < f) (hj : j < l.length) (hs : stop isB l k = j) (hw : wordAt l j = none) : lex f l k = ([], some j) := by
  obtain ⟨f, rfl⟩ : ∃ f', f = f' + 1 := ⟨f - 1, by omega⟩
  rw [lex, hs, if_neg (by omega), hw]
theorem lex_some (l : List UInt8) (k f j : Nat) (t : Tok) (hj : j < l.length) (hs : stop isB l k = j) (hw : wordAt l j = some t) : lex (f + 1) l k = (t :: (lex f l (j + t.text.length)).1, (lex f l (j + t.text.length)).2) := by
  rw [lex, hs, if_neg (by omega), hw]
theorem lex_end (l : List UInt8) (k f : Nat) (hf : 0 < f) (hs : stop isB l k = l.length) : lex f l k = ([⟨101, [], l.length⟩], none) := by
  obtain ⟨f, rfl⟩ : ∃ f', f = f' + 1 := ⟨f - 1, by omega⟩
  rw [lex, hs, if_pos (by omega)]

set_option maxHeartbeats 2000000 in
theorem words_any (l : List UInt8) (w : World) (hl : l.length ≤ 1000) :
    Calls Tryz.prog 60 #[S l] w fun e w' => WordsAns l w e w' := by
  obtain ⟨i0, hi, hz0, hz1, hz2⟩ := info_parts info_word
  go_enter Tryz.func60, Tryz.ntmps60
  go_wp2_with fail
  go_loopw [4, 5] (fun v a wr => ∃ (ts : List Tok) (k f : Nat), k ≤ l.length ∧ ts.length ≤ k ∧ a = .int .i64 k ∧ l.length - k < f ∧ Hid (lex (l.length + 1) l 0 = (ts ++ (lex f l k).1, (lex f l k).2)) ∧ wr.ownsRow w.heap.size 151 3 v ts.length (tokCells ts) ∧ Below w.heap.size w wr) (fun _ a _ => l.length - (intOf a).toNat)
  case atStart => exact ⟨[], 0, l.length + 1, by omega, by simp, rfl, by omega, rfl, World.ownsRow_nil _ _ _ _, Below.refl _ _⟩
  case round =>
    obtain ⟨ts, k, f, hk, htk, rfl, hf, HS, hown, hbw⟩ := hrel
    go_wp2_with fail
    go_loop [5] (fun i => ∃ j : Nat, k ≤ j ∧ j ≤ l.length ∧ i = .int .i64 j ∧ Hid (stop isB l k = stop isB l j)) (fun i => l.length - (intOf i).toNat)
    case atStart => exact ⟨k, by omega, by omega, rfl, rfl⟩
    case round =>
      obtain ⟨j, hkj, hj, rfl, HB⟩ := hrel
      by_cases hlt : j < l.length
      · cases hwt : wordAt l j with
        | none =>
          have HW : Hid _ := hwt
          clear hwt
          go_wp2_with fail
          case roundEnd =>
            refine ⟨⟨j + 1, by omega, by omega, by go_num, ?_⟩, by simp [intOf]; omega⟩
            show _ = _; rw [HB.out]; exact stop_step isB l j hlt (b_yes ‹_›)
          case roundEnd =>
            refine ⟨⟨j + 1, by omega, by omega, by go_num, ?_⟩, by simp [intOf]; omega⟩
            show _ = _; rw [HB.out]; exact stop_step isB l j hlt (b_or ‹_›)
          have hsj : Hid (stop isB l k = j) := by show _ = _; rw [HB.out]; exact stop_no isB l j hlt (b_and ‹_›)
          refine (word_any l j wr hl hlt).mono ?_
          rintro e w1 ⟨ha, hb⟩
          unfold WordAns at ha
          rw [HW.out] at ha
          obtain ⟨k', s', p', rfl⟩ := ha
          go_wp2_with fail
          go_ret2
          refine ⟨(hbw.trans (hb.mono hbw.size)).alloc (by have := hb.size; have := hbw.size; omega) _, ?_⟩
          rw [HS.out, lex_none l k f j (by omega) hlt hsj.out HW.out]
          rfl
        | some t =>
          have HW : Hid _ := hwt
          obtain ⟨ht1, ht2, ht3, ht4⟩ := wordAt_len hlt hwt
          have H3 : Hid _ := ht3
          clear ht3
          clear hwt
          go_wp2_with fail
          case roundEnd =>
            refine ⟨⟨j + 1, by omega, by omega, by go_num, ?_⟩, by simp [intOf]; omega⟩
            show _ = _; rw [HB.out]; exact stop_step isB l j hlt (b_yes ‹_›)
          case roundEnd =>
            refine ⟨⟨j + 1, by omega, by omega, by go_num, ?_⟩, by simp [intOf]; omega⟩
            show _ = _; rw [HB.out]; exact stop_step isB l j hlt (b_or ‹_›)
          have hsj : Hid (stop isB l k = j) := by show _ = _; rw [HB.out]; exact stop_no isB l j hlt (b_and ‹_›)
          refine (word_any l j wr hl hlt).mono ?_
          rintro e w1 ⟨ha, hb⟩
          unfold WordAns at ha
          rw [HW.out] at ha
          subst ha
          unfold tokV
          have hbw1 : Below w.heap.size w w1 := hbw.trans (hb.mono hbw.size)
          have hown1 := ownsRow_below hown hb
          have hs1 := hb.size
          have hs0 := hbw.size
          go_wp2_with (
            at_builtin
            go_must (refine wpList_append_lies _ (by rfl) _ _ 144 (by rfl) w.heap.size 151 i0 (.agg #[.int .u8 0, .string ⟨#[]⟩, .int .i64 0]) 3 32 Tryz.underlying144 hi hz0 hz1 hz2 (by rfl) (by decide) _ _ _ (by rfl) ((hown1.alloc _).alloc _) ⟨w1.heap.size + 1, 0, none⟩ 1 1 [.int .u8 t.k, S t.text, .int .i64 t.pl] (by rfl) (by rfl) (cell_three_new2 _ _ _ _ _ _) (fun x hx => by simp at hx; rcases hx with rfl | rfl | rfl <;> rfl) (by decide) (by unfold maxLen; omega) (by omega) (by simp; omega) _ rfl ?_)
            intro g cap w3 hown3 hgrow3 hat hlt3
            have hc1 := box_far hown1 hgrow3 1
            have hbw3 := below_far hbw1 hown1 hgrow3
            clear hgrow3 hat)
          go_roundw
          case rel =>
            obtain ⟨f, rfl⟩ : ∃ f', f = f' + 1 := ⟨f - 1, by omega⟩
            refine ⟨ts ++ [t], j + t.text.length, f, ht2, by simp; omega, by go_num, by omega, ?_, ?_, hbw3⟩
            · show _ = _
              rw [HS.out, lex_some l k f j t hlt hsj.out HW.out]; simp
            · rw [tokCells_snoc]; simpa using hown3
          case measure => simp [intOf]; omega
      · have hjl : j = l.length := by omega
        subst hjl
        go_wp2_with (
          at_builtin
          go_must (refine wpList_append_lies _ (by rfl) _ _ 144 (by rfl) w.heap.size 151 i0 (.agg #[.int .u8 0, .string ⟨#[]⟩, .int .i64 0]) 3 32 Tryz.underlying144 hi hz0 hz1 hz2 (by rfl) (by decide) _ _ _ (by rfl) (hown.alloc _) ⟨wr.heap.size, 0, none⟩ 1 1 [.int .u8 101, S [], .int .i64 l.length] (by rfl) (by rfl) (cell_three_new _ _ _ _ _) (fun x hx => by simp at hx; rcases hx with rfl | rfl | rfl <;> rfl) (by decide) (by unfold maxLen; omega) (by omega) (by simp; have := hbw.size; omega) _ rfl ?_)
          intro g cap w3 hown3 hgrow3 hat hlt3)
        go_ret2
        refine ⟨below_far1 hbw hown hgrow3, ?_⟩
        rw [HS.out, lex_end l k f (by omega) (by rw [HB.out]; exact stop_end isB l _ (by omega))]
        exact ⟨g, cap, by simp, by rw [tokCells_snoc]; simpa using hown3⟩
end Go.Proofs.YtfkdailfcmnjlaaGreatDoor
