/-
  The reference's function 'words' answers as the plain lexer does.
-/
import Derived.Test.YtfkdailfcmnjlaaGreatDoorPlain01
import Derived.Test.YtfkdailfcmnjlaaGreatDoorPlain04
import Derived.Test.YtfkdailfcmnjlaaGreatDoorPlain05
import Derived.Test.YtfkdailfcmnjlaaGreatDoorPlain06
import Derived.Deep.AppendLies
import Derived.WalkKit
import Derived.Deep.QuietTactic
import Derived.BigQuiet
import Derived.WalkSpells
import GoSem.Op.String
set_option linter.unusedVariables false
set_option linter.unusedSimpArgs false
namespace Go.Proofs.YtfkdailfcmnjlaaGreatDoor
open Go Go.RowKit
set_option maxRecDepth 100000

/-- The cells of words, one behind the other. -/
def tokCells (ts : List Tok) : List Value := ts.flatMap fun t => [.int .u8 t.k, S t.text, .int .i64 t.pl]
theorem wordAt_len {l : List UInt8} {a : Nat} {t : Tok} (ha : a < l.length) (h : wordAt l a = some t) : 1 ≤ t.text.length ∧ a + t.text.length ≤ l.length ∧ t.pl = a ∧ t.k ≤ 255 := by
  unfold wordAt at h
  have h1 := stop_le isD l a (by omega)
  have h2 := stop_le isL l a (by omega)
  split at h
  · split at h
    · simp at h
    · simp at h; subst h; refine ⟨?_, ?_, rfl, by simp⟩ <;> simp only [cut_len l a _ h1] <;> omega
  · split at h
    · split at h
      · simp at h; subst h; refine ⟨?_, ?_, rfl, by simp⟩ <;> simp only [cut_len l a _ h2] <;> omega
      · split at h
        · simp at h; subst h; refine ⟨?_, ?_, rfl, by simp⟩ <;> simp only [cut_len l a _ h2] <;> omega
        · simp at h
    · rw [List.getElem?_eq_getElem ha] at h
      simp only at h
      split at h
      · split at h
        · simp at h; subst h
          rename_i h3
          have : a + 1 < l.length := by
            rcases Nat.lt_or_ge (a + 1) l.length with h4 | h4
            · exact h4
            · rw [List.getD_eq_getElem?_getD, List.getElem?_eq_none h4] at h3; simp at h3
          simp; omega
        · simp at h; subst h; simp; omega
      · split at h
        · simp at h; subst h; simp; omega
        · simp at h

theorem b_yes {c : UInt8} (h : (c.toNat : Int) = 32) : isB c = true := by unfold isB; simp; omega
theorem b_or {c : UInt8} (h : ((c.toNat : Int) == 32) = true ∨ ((c.toNat : Int) == 10) = true) : isB c = true := by unfold isB; simp at h ⊢; omega
theorem b_and {c : UInt8} (h : ((c.toNat : Int) == 32) = false ∧ ((c.toNat : Int) == 10) = false) : isB c = false := by unfold isB; simp at h ⊢; omega
theorem ownsRow_below {w w' : World} {base : Nat} {e : TypeId} {size : Nat} {v : Value} {n : Nat} {xs : List Value} (h : w.ownsRow base e size v n xs) (hb : Below w.heap.size w w') : w'.ownsRow base e size v n xs := by
  obtain ⟨h1, h2⟩ := h
  refine ⟨h1, ?_⟩
  rcases h2 with h2 | ⟨g, cap, cur, a, b, c, d⟩
  · exact .inl h2
  · refine .inr ⟨g, cap, cur, a, b, ?_, d⟩
    rw [hb.block g ?_]; exact c
    rcases Nat.lt_or_ge g w.heap.size with hlt | hge
    · exact hlt
    · rw [Array.getElem?_eq_none hge] at c; cases c
theorem below_far {w w1 w3 : World} {e : TypeId} {size : Nat} {v : Value} {n : Nat} {xs : List Value} {o1 o2 : Obj} (hbw1 : Below w.heap.size w w1) (hown1 : w1.ownsRow w.heap.size e size v n xs) (hg : ((w1.alloc o1).alloc o2).grownBy w3 v.ownBlock) : Below w.heap.size w w3 := by
  have h0 := hbw1.size
  exact Below.grown ((hbw1.alloc (by omega) _).alloc (by simp; omega) _) hg (by simp; omega) (fun j hj => (hown1.lt _ hj).1)
theorem below_far1 {w w1 w3 : World} {e : TypeId} {size : Nat} {v : Value} {n : Nat} {xs : List Value} {o1 : Obj} (hbw1 : Below w.heap.size w w1) (hown1 : w1.ownsRow w.heap.size e size v n xs) (hg : (w1.alloc o1).grownBy w3 v.ownBlock) : Below w.heap.size w w3 := by
  have h0 := hbw1.size
  exact Below.grown (hbw1.alloc (by omega) _) hg (by simp; omega) (fun j hj => (hown1.lt _ hj).1)
theorem lex_none (l : List UInt8) (k f j : Nat) (hf : 0 < f) (hj : j < l.length) (hs : stop isB l k = j) (hw : wordAt l j = none) : lex f l k = ([], some j) := by
  obtain ⟨f, rfl⟩ : ∃ f', f = f' + 1 := ⟨f - 1, by omega⟩
  rw [lex, hs, if_neg (by omega), hw]
theorem lex_some (l : List UInt8) (k f j : Nat) (t : Tok) (hj : j < l.length) (hs : stop isB l k = j) (hw : wordAt l j = some t) : lex (f + 1) l k = (t :: (lex f l (j + t.text.length)).1, (lex f l (j + t.text.length)).2) := by
  rw [lex, hs, if_neg (by omega), hw]
theorem lex_end (l : List UInt8) (k f : Nat) (hf : 0 < f) (hs : stop isB l k = l.length) : lex f l k = ([⟨101, [], l.length⟩], none) := by
  obtain ⟨f, rfl⟩ : ∃ f', f = f' + 1 := ⟨f - 1, by omega⟩
  rw [lex, hs, if_pos (by omega)]

end Go.Proofs.YtfkdailfcmnjlaaGreatDoor
