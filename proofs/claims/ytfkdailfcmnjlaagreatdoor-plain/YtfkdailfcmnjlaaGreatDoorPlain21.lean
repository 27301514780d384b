/-
  The program's plain form of a policy. The document's plain form of every part; what is known of a text that was read, for its plain form. The document's 'tells': what a part of a condition tells. The document's Print. Every Print of the program is the document's. What a policy says of an event: the plain function, and what is known of a text that was read. The program's Mean of a policy: what it keeps from item to item. The program's Mean. A text that has the words of a policy is read as that policy; a text that was read is one of these; its plain form is read back. The place that is told of a text that is no policy lies in it.
-/
import Derived.Test.YtfkdailfcmnjlaaGreatDoorPlain01
import Derived.Test.YtfkdailfcmnjlaaGreatDoorPlain02
import Derived.Test.YtfkdailfcmnjlaaGreatDoorPlain03
import Derived.Test.YtfkdailfcmnjlaaGreatDoorPlain04
import Derived.Test.YtfkdailfcmnjlaaGreatDoorPlain05
import Derived.Test.YtfkdailfcmnjlaaGreatDoorPlain06
import Derived.Test.YtfkdailfcmnjlaaGreatDoorPlain07
import Derived.Test.YtfkdailfcmnjlaaGreatDoorPlain08
import Derived.Test.YtfkdailfcmnjlaaGreatDoorPlain09
import Derived.Test.YtfkdailfcmnjlaaGreatDoorPlain10
import Derived.Test.YtfkdailfcmnjlaaGreatDoorPlain11
import Derived.Test.YtfkdailfcmnjlaaGreatDoorPlain12
import Derived.Test.YtfkdailfcmnjlaaGreatDoorPlain13
import Derived.Test.YtfkdailfcmnjlaaGreatDoorPlain14
import Derived.Test.YtfkdailfcmnjlaaGreatDoorPlain15
import Derived.Test.YtfkdailfcmnjlaaGreatDoorPlain16
import Derived.Test.YtfkdailfcmnjlaaGreatDoorPlain17
import Derived.Test.YtfkdailfcmnjlaaGreatDoorPlain18
import Derived.Test.YtfkdailfcmnjlaaGreatDoorPlain19
import Derived.Test.YtfkdailfcmnjlaaGreatDoorPlain20
import Derived.Test.YtfkdailfcmnjlaaGreatDoorLays
import Derived.Test.YtfkdailfcmnjlaaGreatDoorLays2
import Derived.WalkKit
import Derived.Deep.QuietTactic
import Derived.BigQuiet
import Derived.WalkSpells
import GoSem.Op.String
import Derived.Deep.AppendLies
import Derived.Deep.RegionHeld3
import Derived.Deep.DrawnRows
import Derived.Deep.RegionHeldLaw
import Derived.Deep.RegionLaw
import Derived.Lib.ParseIntBCases
import Derived.Deep.OwnRows
import Derived.Lib.LaidTab
import Derived.Lib.AppendIntMem
import Derived.Shelf.Strings.Builder1
set_option linter.unusedVariables false
set_option linter.unusedSimpArgs false
namespace Go.Proofs.YtfkdailfcmnjlaaGreatDoor
open Go Go.RowKit
set_option maxRecDepth 100000
attribute [local go_sem ↓] Go.wp_at_zero Go.wp_at_succ
variable {bs : Nat}

theorem isB_below {B b : Nat} {l : List Value} {w w' : World} (h : Lib.IsBuilder 157 5 B b l w) (hb : Below w.heap.size w w') : Lib.IsBuilder 157 5 B b l w' := by
  rcases h with ⟨h1, v, h2, h3, h4⟩ | ⟨h1, v, h2, h3, h4⟩
  · exact .inl ⟨h1, v, by rw [hb.block _ (lt_of_get h2)]; exact h2, ownsRow_below h3 hb, h4⟩
  · exact .inr ⟨h1, v, by rw [hb.block _ (lt_of_get h2)]; exact h2, ownsRow_below h3 hb, h4⟩
theorem print_take {L : List Pt} {xs : List Itm} {k : Nat} (h : k < xs.length) : printL L (xs.take (k + 1)) = printL L (xs.take k) ++ itemL L (xs.getD k noItm) := by
  unfold printL
  rw [take_snoc h noItm, List.flatMap_append]; simp

theorem cells_app (l m : List UInt8) : Lib.byteCells l ++ Lib.strCells (ByteArray.mk m.toArray) = Lib.byteCells (l ++ m) := by
  simp [Lib.byteCells, Lib.strCells]
theorem cells_len (l : List UInt8) : (Lib.byteCells l).length = l.length := by simp [Lib.byteCells]
theorem head_len (x : Itm) (h : x.name.length ≤ 1000) : (headL x).length ≤ 1010 := by
  unfold headL wsAllow wsDeny wsLet wsEq
  split
  · split <;> simp
  · simp; omega

set_option maxHeartbeats 8000000 in
theorem plain_any {L : List Pt} {N : Tok → Int → Prop} (hL : PlainOK L) {xs : List Itm} {ys : List (Tok × Tok × Nat × Int)} {base : Nat} {v : Value} {w : World} (hrow : w.ownsRow base 163 10 v ys.length (iCells ys)) (hy : ys.length ≤ 1001)
    (hit : ItemsAt (CondS bs L N w) xs ys) (htr : TreesAt L xs 0) (hnm : ∀ x ∈ xs, x.name.length ≤ 1000) (hS : Sp w) (hTb : Tb w) :
    Calls Tryz.prog 34 #[v] w fun e w' => e = .returned (S (printL L xs)) ∧ Below w.heap.size w w' := by
  obtain ⟨a, cap, rfl, hcell⟩ := row_cells hrow
  have hlen : Hid _ := hit.len
  have HC : Hid _ := hcell
  have HT : Hid _ := hit
  have HTR : Hid _ := htr
  have HL : Hid _ := hL
  have HNM : Hid _ := hnm
  have HS : Hid (Sp w) := hS
  have HTB : Hid (Tb w) := hTb
  clear hrow hcell hit htr hL hnm hS hTb
  go_enter Tryz.func34, Tryz.ntmps34
  have hB0 : Below w.heap.size w (w.alloc (.cells #[.pointer none, .slice none 0 0] 157)) := (Below.refl _ _).alloc (Nat.le_refl _) _
  have hI0 : Lib.IsBuilder 157 5 w.heap.size w.heap.size (Lib.byteCells []) (w.alloc (.cells #[.pointer none, .slice none 0 0] 157)) := .inl ⟨Nat.le_refl _, _, heap_alloc_new w _, World.ownsRow_nil _ _ _ _, by simp [Value.ownBlock]⟩
  go_wp2_with fail
  generalize w.alloc (.cells #[.pointer none, .slice none 0 0] 157) = wz at *
  generalize hbb : w.heap.size = bb at *
  have HBB : Hid _ := hbb
  clear hbb
  go_loopw [8] (fun kv wr => ∃ k fr l, k ≤ ys.length ∧ kv = .int .i64 k ∧ Hid (l = printL L (xs.take k)) ∧ l.length ≤ 6000000 * k ∧ Hid (TreesAt L (xs.drop k) fr) ∧ Hid (ItemsAt (CondS bs L N w) (xs.drop k) (ys.drop k)) ∧ Lib.IsBuilder 157 5 bb bb (Lib.byteCells l) wr ∧ Below bb w wr) (fun kv _ => ys.length - (intOf kv).toNat)
  case atStart => exact ⟨0, 0, [], Nat.zero_le _, rfl, rfl, by simp, HTR.out, HT.out, hI0, hB0⟩
  case round =>
    obtain ⟨k, fr, l, hk, rfl, HM, hll, HTR2, HIT2, hisb, hbw⟩ := hrel
    by_cases hlt : k < ys.length
    · have hltx : k < xs.length := by rw [← hlen.out]; exact hlt
      have ht2 := HTR2.out
      have hi2 := HIT2.out
      rw [drop_head hltx noItm] at ht2 hi2
      rw [drop_head hlt (zTok, zTok, 0, 0)] at hi2
      obtain ⟨g, rfl, ⟨gcs, hgc⟩, hcells⟩ := HC.out k hlt
      have HPT : Hid _ := print_take (L := L) hltx
      have hxn : (xs.getD k noItm).name.length ≤ 1000 := HNM.out _ (by rw [List.getD_eq_getElem?_getD, List.getElem?_eq_getElem hltx]; exact List.getElem_mem hltx)
      generalize xs.getD k noItm = x at *
      generalize ys.getD k (zTok, zTok, 0, 0) = y at *
      obtain ⟨⟨hCd, hO⟩, hi2⟩ := hi2
      obtain ⟨hTr, hpt, ht2⟩ := ht2
      obtain ⟨t0, u0, b, wh⟩ := y
      simp only [] at hCd hO
      have hw0 : w.heap.size ≤ wr.heap.size := hbw.size
      have hbw' : Below w.heap.size w wr := by rw [HBB.out]; exact hbw
      have hct : ∀ j, j < 10 → wr.cell? ⟨g, k * 10 + j, none⟩ = (icell (t0, u0, b, wh))[j]? := fun j hj => by
        rw [hbw'.cell (p := ⟨g, k * 10 + j, none⟩) (lt_of_get hgc)]; exact hcells j hj
      have c0 : wr.cell? ⟨g, k * 10, none⟩ = some (.int .i64 (kindOf t0)) := hct 0 (by omega)
      have c1 : wr.cell? ⟨g, k * 10 + 1, none⟩ = some (.int .i64 t0.pl) := hct 1 (by omega)
      have c2 : wr.cell? ⟨g, k * 10 + 2, none⟩ = some (.int .i64 (nmOf t0)) := hct 2 (by omega)
      have c3 : wr.cell? ⟨g, k * 10 + 3, none⟩ = some (S (ownOf t0)) := hct 3 (by omega)
      have c4 : wr.cell? ⟨g, k * 10 + 4, none⟩ = some (.int .i64 (kindOf u0)) := hct 4 (by omega)
      have c5 : wr.cell? ⟨g, k * 10 + 5, none⟩ = some (.int .i64 u0.pl) := hct 5 (by omega)
      have c6 : wr.cell? ⟨g, k * 10 + 6, none⟩ = some (.int .i64 (nmOf u0)) := hct 6 (by omega)
      have c7 : wr.cell? ⟨g, k * 10 + 7, none⟩ = some (S (ownOf u0)) := hct 7 (by omega)
      have c8 : wr.cell? ⟨g, k * 10 + 8, none⟩ = some (.int .i64 wh) := hct 8 (by omega)
      have c9 : wr.cell? ⟨g, k * 10 + 9, none⟩ = some (.pointer (some ⟨b, 0, none⟩)) := hct 9 (by omega)
      have hTF := hTr.fit
      have hpl := TreeF.plain_len HL.out.short hTF
      have hxl := hTF.lt
      have hfew := HL.out.few
      have hpl2 : (plainF (x.top + 1) L x.top).length ≤ 5500000 := Nat.le_trans hpl (Nat.le_trans (Nat.mul_le_mul_left _ (show x.top + 1 - fr ≤ 5000 by omega)) (by decide))
      have hhl := head_len x hxn
      have hb1 : Below wr.heap.size wr (wr.alloc (itObjW t0 u0 wh (.pointer (some ⟨b, 0, none⟩)))) := (Below.refl _ _).alloc (Nat.le_refl _) _
      have hB1 : Below w.heap.size w (wr.alloc (itObjW t0 u0 wh (.pointer (some ⟨b, 0, none⟩)))) := hbw'.trans (hb1.mono hw0)
      have hz1 : (wr.alloc (itObjW t0 u0 wh (.pointer (some ⟨b, 0, none⟩)))).heap[wr.heap.size]? = some (itObjW t0 u0 wh (.pointer (some ⟨b, 0, none⟩))) := heap_alloc_new wr _
      have hI1 := isB_below hisb hb1
      have W1 := head_any (b := b) (n := wh) hO hxn (wr.alloc (itObjW t0 u0 wh (.pointer (some ⟨b, 0, none⟩)))) (Sp.below HS.out (Sp.pos HS.out) hB1)
      unfold itW at W1
      have HIT3 : Hid _ := hi2
      have HTR3 : Hid _ := ht2
      have HCD : Hid _ := hCd
      have HTF : Hid _ := hTF
      have HEI : Hid (itemL L x = headL x ++ plainF (x.top + 1) L x.top ++ [59, 10]) := rfl
      clear hcells hct hTr hTF hi2 ht2 hCd hO hpl hbw hisb hgc
      unfold itObjW at hb1 hB1 hz1 hI1 W1
      generalize headL x = hd at *
      generalize kindOf t0 = q0 at *
      generalize t0.pl = q1 at *
      generalize nmOf t0 = q2 at *
      generalize ownOf t0 = q3 at *
      generalize kindOf u0 = q4 at *
      generalize u0.pl = q5 at *
      generalize nmOf u0 = q6 at *
      generalize ownOf u0 = q7 at *
      go_wp2_with fail
      refine W1.mono ?_
      rintro e w1 ⟨rfl, hb2⟩
      clear W1 c0 c1 c2 c3 c4 c5 c6 c7 c8 c9
      have hB2 := hB1.trans (hb2.mono hB1.size)
      have hz2 := (hb2.block _ (lt_of_get hz1)).trans hz1
      have hs2 := hB2.size
      rw [HBB.out] at hs2
      have W2 := writeString_any bb bb (Lib.byteCells l) ⟨hd.toArray⟩ w1 (isB_below hI1 hb2) (by rw [cells_len]; simp [ByteArray.size]; omega) hs2
      rw [cells_app] at W2
      clear hb1 hB1 hz1 hI1 hb2
      have HB2 : Hid _ := hB2
      have HZ2 : Hid _ := hz2
      clear hB2 hz2
      go_wp2_with fail
      refine W2.mono ?_
      rintro e w2 ⟨rfl, hI3, hb3, hW3⟩
      clear W2
      have hz3 := (hW3 _ _ _ _ HZ2.out (by decide) (by decide)).trans HZ2.out
      have hB3 : Below w.heap.size w w2 := HB2.out.trans (by rw [HBB.out]; exact hb3)
      obtain ⟨⟨z0, z1, z2, z3, z4, z5, z6, z7, z8, z9⟩, zf⟩ := it_cells hz3
      have W3 := pplain_any HL.out (x.top + 1) HTF.out (HCD.out.grow hB3) (Sp.below HS.out (Sp.pos HS.out) hB3) (Tb.below HTB.out hB3)
      have HB3 : Hid _ := hB3
      have hI3' : Hid (Lib.IsBuilder 157 5 bb bb (Lib.byteCells (l ++ hd)) w2) := .inr hI3
      clear hz3 hB3 hI3 hb3 hW3 HZ2 HB2
      generalize plainF (x.top + 1) L x.top = pl at *
      go_wp2_with fail
      refine W3.mono ?_
      rintro e w3 ⟨rfl, hb4⟩
      clear W3 z0 z1 z2 z3 z4 z5 z6 z7 z8 z9 zf
      have hB4 := HB3.out.trans (hb4.mono HB3.out.size)
      have hs4 := hB4.size
      rw [HBB.out] at hs4
      have W4 := writeString_any bb bb (Lib.byteCells (l ++ hd)) ⟨pl.toArray⟩ w3 (isB_below hI3'.out hb4) (by rw [cells_len]; simp [ByteArray.size]; omega) hs4
      rw [cells_app] at W4
      have HB4 : Hid _ := hB4
      clear hB4 hb4 hI3'
      go_wp2_with fail
      refine W4.mono ?_
      rintro e w4 ⟨rfl, hI5, hb5, _⟩
      clear W4
      have hB5 : Below w.heap.size w w4 := HB4.out.trans (by rw [HBB.out]; exact hb5)
      have hs5 := hB5.size
      rw [HBB.out] at hs5
      have W5 := writeString_any bb bb (Lib.byteCells (l ++ hd ++ pl)) ⟨[59, 10].toArray⟩ w4 (.inr hI5) (by rw [cells_len]; simp [ByteArray.size]; omega) hs5
      rw [cells_app] at W5
      have HB5 : Hid _ := hB5
      clear hB5 hb5 hI5
      go_wp2_with fail
      refine W5.mono ?_
      rintro e w5 ⟨rfl, hI6, hb6, _⟩
      clear W5
      have hB6 : Below bb w w5 := by
        have := HB5.out
        rw [HBB.out] at this
        exact this.trans hb6
      go_wp2_with fail
      go_roundw
      case rel =>
        refine ⟨k + 1, x.parts, l ++ hd ++ pl ++ [59, 10], by omega, by simp, ?_, by simp; omega, HTR3.out, HIT3.out, .inr hI6, hB6⟩
        show _ = _
        rw [HPT.out, HEI.out, HM.out]; simp
      case measure => simp [intOf]; omega
    · have hke : k = ys.length := by omega
      subst hke
      have hsz : bb ≤ wr.heap.size := by have := hbw.size; rw [HBB.out] at this; exact this
      have W1 := builderString_any bb bb l wr hisb hsz
      have HE : Hid (l = printL L xs) := by
        have := HM.out
        rw [List.take_of_length_le (by rw [hlen.out]; exact Nat.le_refl _)] at this
        exact this
      clear hisb
      go_wp2_with fail
      refine W1.mono ?_
      rintro e w1 ⟨rfl, hb1⟩
      clear W1
      go_wp2_with fail
      go_ret
      refine ⟨by rw [← HE.out]; rfl, ?_⟩
      rw [HBB.out]; exact hbw.trans hb1
end Go.Proofs.YtfkdailfcmnjlaaGreatDoor

namespace Go.Proofs.YtfkdailfcmnjlaaGreatDoor
open Go Go.RowKit
set_option maxRecDepth 100000

theorem item_name {F : Nat} {ts : List Tok} {i : Nat} {L : List Pt} {r : ItR} (h : itemP F ts i L = some r) (ok : r.ok = true) : r.it.name = [] ∨ ∃ t ∈ ts, r.it.name = t.text := by
  have tail : ∀ (j : Nat) (x : Itm), itemTail F ts j L x = some r → r.it.name = x.name := by
    intro j x hr
    obtain ⟨a, ha, hres⟩ := tail_parts hr
    rcases hres with ⟨oka, hw, rfl⟩ | ⟨_, hr1, _⟩
    · rfl
    · rw [hr1] at ok; simp at ok
  unfold itemP at h
  split at h
  · split at h
    · rename_i hk
      split at h
      · have hm := (inside (ts := ts) (i := i + 1) fun e => by rw [e] at hk; exact absurd hk (by decide)).2
        exact .inr ⟨_, hm, tail _ _ h⟩
      · simp [itFail] at h; subst h; simp at ok
    · simp [itFail] at h; subst h; simp at ok
  · split at h
    · split at h
      · exact .inl (tail _ _ h)
      · simp [itFail] at h; subst h; simp at ok
    · simp [itFail] at h; subst h; simp at ok
theorem parse_named {F : Nat} {ts : List Tok} (g : Nat) : ∀ (i : Nat) (L : List Pt) (xs : List Itm) (R : AllR), (∀ x ∈ xs, x.name = [] ∨ ∃ t ∈ ts, x.name = t.text) → parseAll F ts g i L xs = some R → R.ok = true → ∀ x ∈ R.xs, x.name = [] ∨ ∃ t ∈ ts, x.name = t.text := by
  induction g with
  | zero => intro i L xs R _ h; rw [parseAll] at h; simp at h
  | succ g ih =>
    intro i L xs R hT h ok
    by_cases hk : (tokAt ts i).k = 101
    · have := parse_end h hk; subst this; exact hT
    · rw [parseAll, if_neg hk] at h
      cases hr : itemP F ts i L with
      | none => rw [hr] at h; simp at h
      | some r =>
        rw [hr] at h
        simp only at h
        by_cases okr : r.ok = true
        · rw [if_pos okr] at h
          refine ih r.i r.L (xs ++ [r.it]) R (fun x hx => ?_) h ok
          rcases List.mem_append.1 hx with hx | hx
          · exact hT x hx
          · rw [List.mem_singleton] at hx; subst hx; exact item_name hr okr
        · rw [if_neg okr] at h; simp at h; subst h; simp at ok

/-- What a text that was read gives for its plain form. -/
structure PrintOK (L : List Pt) (xs : List Itm) : Prop where
  parts : PlainOK L
  trees : TreesAt L xs 0
  names : ∀ x ∈ xs, x.name.length ≤ 1000
theorem print_known (l : List UInt8) (h0 : (readOf l).1.1 = 0) : PrintOK (readOf l).2.1 (readOf l).2.2 := by
  unfold readOf at *
  by_cases h1 : 1000 < l.length
  · rw [if_pos h1] at h0; simp at h0
  · rw [if_neg h1] at h0 ⊢
    cases hx : (lex (l.length + 1) l 0).2 with
    | some p => rw [hx] at h0; simp at h0
    | none =>
      rw [hx] at h0
      simp only [] at h0 ⊢
      have hlex : lex (l.length + 1) l 0 = ((lex (l.length + 1) l 0).1, none) := by rw [← hx]
      obtain ⟨r1, r2, r3, r4, r5⟩ := lex_ok l (by omega) (l.length + 1) 0 _ (Nat.zero_le _) (by omega) hlex
      obtain ⟨hwo, hwl⟩ := lex_words l (l.length + 1) 0 _ (Nat.zero_le _) (by omega) hlex
      generalize (lex (l.length + 1) l 0).1 = ts at *
      obtain ⟨R, hR⟩ := parse_total (F := 16 * ts.length + 8) (Nat.le_refl _) r4 (ts.length + 1) 0 [] [] (by omega)
      have e : allOf ts = R := by unfold allOf; rw [hR]; rfl
      rw [e] at h0 ⊢
      have ok : R.ok = true := by
        cases hk : R.ok with
        | true => rfl
        | false => unfold verdictOf at h0; rw [if_pos hk] at h0; simp at h0
      obtain ⟨k1, k2, k3⟩ := all_known hwo (by omega) hR ok
      obtain ⟨_, k4, _, _⟩ := parse_trees hwo.sorted _ 0 [] [] R rfl ⟨by simp, by simp, by simp⟩ (by simp) (by omega) hR ok
      have k5 := parse_named _ 0 [] [] R (by simp) hR ok
      refine ⟨⟨k3, fun k hk => (r3 _ (k4.2.2 k hk)).1, fun k hk hn => ((r3 _ (k4.2.2 k hk)).2 hn).2, k2.few⟩, k1, fun x hx => ?_⟩
      rcases k5 x hx with h | ⟨t, ht, h⟩
      · rw [h]; simp
      · rw [h]; exact (r3 t ht).1

end Go.Proofs.YtfkdailfcmnjlaaGreatDoor

namespace Go.Proofs.YtfkdailfcmnjlaaGreatDoor
open Go Go.RowKit
set_option maxRecDepth 100000
attribute [local go_sem ↓] Go.wp_at_zero Go.wp_at_succ

def intCells (l : List Int) : List Value := l.map fun v => Value.int .i64 v
/-- The policy lies in memory, what the items so far told, and the fields. -/
structure TelIn (B gi c g cap gf : Nat) (xs : List Itm) (ps : List PartS) (bv : Value) (vals fl : List Int) (w : World) : Prop where
  items : ItemsIn B (.slice (some ⟨gi, 0, none⟩) xs.length c) xs w
  parts : PartsIn B g cap ps w
  row : w.ownsRow B 2 1 bv vals.length (intCells vals)
  len : vals.length ≤ xs.length
  fields : ∀ i, i < 9 → w.cell? ⟨gf, i, none⟩ = some (.int .i64 (fl.getD i 0))
theorem TelIn.below {B gi c g cap gf : Nat} {xs : List Itm} {ps : List PartS} {bv : Value} {vals fl : List Int} {w w' : World} (h : TelIn B gi c g cap gf xs ps bv vals fl w) (hb : Below w.heap.size w w') : TelIn B gi c g cap gf xs ps bv vals fl w' :=
  ⟨h.items.below hb, h.parts.below hb, ownsRow_below h.row hb, h.len, fun i hi => by rw [hb.cell (p := ⟨gf, i, none⟩) (World.block_lt_of_cell? w _ (h.fields i hi))]; exact h.fields i hi⟩
end Go.Proofs.YtfkdailfcmnjlaaGreatDoor

namespace Go.Proofs.YtfkdailfcmnjlaaGreatDoor
open Go Go.RowKit
set_option maxRecDepth 100000
attribute [local go_sem ↓] Go.wp_at_zero Go.wp_at_succ

/-- What Print answers. -/
def textOf (l : List UInt8) : List UInt8 := if (readOf l).1.1 = 0 then printL (readOf l).2.1 (readOf l).2.2 else []
end Go.Proofs.YtfkdailfcmnjlaaGreatDoor

namespace Go.Proofs.YtfkdailfcmnjlaaGreatDoor
open Go Go.RowKit
set_option maxRecDepth 100000
attribute [local go_sem ↓] Go.wp_at_zero Go.wp_at_succ

theorem verdict_zero (ts : List Tok) (R : AllR) (h : (verdictOf ts R).1 = 0) : (verdictOf ts R).2 = 0 := by
  unfold verdictOf at *
  repeat' split at h
  all_goals simp_all
theorem read_zero (l : List UInt8) (h : (readOf l).1.1 = 0) : (readOf l).1.2 = 0 := by
  unfold readOf at *
  by_cases h1 : 1000 < l.length
  · rw [if_pos h1] at h; simp at h
  · rw [if_neg h1] at h ⊢
    cases hx : (lex (l.length + 1) l 0).2 with
    | some p => rw [hx] at h; simp at h
    | none =>
      rw [hx] at h
      exact verdict_zero _ _ h
set_option maxHeartbeats 2000000 in
theorem print_prog (l : List UInt8) (w : World) (hW : Wd w) (hT : Tb w) (hm : l.length ≤ maxLen) : Calls Tryz.prog 14 #[S l] w fun e w' => e = .returned (.tuple #[S (textOf l), .int .i64 (readOf l).1.1, .int .i64 (readOf l).1.2]) ∧ Below w.heap.size w w' := by
  have HR := pread_any l w hW hm
  have HK : Hid ((readOf l).1.1 = 0 → PrintOK (readOf l).2.1 (readOf l).2.2) := print_known l
  have HX : Hid (textOf l = if (readOf l).1.1 = 0 then printL (readOf l).2.1 (readOf l).2.2 else []) := rfl
  have HZ : Hid ((readOf l).1.1 = 0 → (readOf l).1.2 = 0) := read_zero l
  have HW : Hid (Wd w) := hW
  have HT : Hid (Tb w) := hT
  have hb := read_bound l
  clear hW hT
  generalize textOf l = r at *
  generalize (readOf l).1.1 = n at *
  generalize (readOf l).1.2 = k at *
  generalize (readOf l).2.1 = L at *
  generalize (readOf l).2.2 = xs at *
  go_enter Tryz.func14, Tryz.ntmps14
  go_wp2_with fail
  refine HR.mono ?_
  rintro e w1 ⟨hf, v, rfl, hv⟩
  clear HR
  by_cases h0 : n = 0
  · obtain ⟨bs, ys, hbs, hP⟩ := hv h0
    have hk := HK.out h0
    have W1 := plain_any hk.parts hP.row hP.few hP.items hP.trees hk.names (Sp.below HW.out.1 (Sp.pos HW.out.1) hf) (Tb.below HT.out hf)
    have HX2 : Hid (r = printL L xs) := by show _ = _; rw [HX.out, if_pos h0]
    have HZ2 : Hid _ := HZ.out h0
    have HF : Hid _ := hf
    clear hv hP hk HK HX HZ hf
    subst h0
    generalize printL L xs = pr at *
    go_wp2_with fail
    refine W1.mono ?_
    rintro e w2 ⟨rfl, hb2⟩
    clear W1
    go_wp2_with fail
    refine bodyPost_ret (v := .tuple #[S pr, .int .i64 0, .int .i64 0]) (by simp [results, Tryz.results14, go_sem]) rfl ?_
    exact ⟨by rw [HX2.out, HZ2.out]; rfl, HF.out.trans (hb2.mono HF.out.size)⟩
  · have e1 : ((n : Int) == 0) = false := by
      have : ¬ (n : Int) = 0 := by omega
      simpa using this
    have e2 : ((n : Int) != 0) = true := by
      have : ¬ (n : Int) = 0 := by omega
      simpa using this
    have HX2 : Hid (r = []) := by show _ = _; rw [HX.out, if_neg h0]
    have HF : Hid _ := hf
    clear hv HK HX HZ hf h0
    go_wp2_with fail
    refine bodyPost_ret (v := .tuple #[S [], .int .i64 n, .int .i64 k]) (by simp [results, Tryz.results14, go_sem]) rfl ?_
    exact ⟨by rw [HX2.out], HF.out⟩

end Go.Proofs.YtfkdailfcmnjlaaGreatDoor

namespace Go.Proofs.YtfkdailfcmnjlaaGreatDoor
open Go Go.RowKit
set_option maxRecDepth 100000

/-- The first rule that tells true, and its number. -/
def meanL (xs : List Itm) (fl : List Int) (L : List Pt) : List Itm → List Int → Nat → Option (Bool × Nat)
  | [], _, _ => none
  | x :: r, vals, n =>
    if x.name = [] then (if tellF xs vals fl L (x.top + 1) x.top = 1 then some (x.allow, n + 1) else meanL xs fl L r (vals ++ [tellF xs vals fl L (x.top + 1) x.top]) (n + 1))
    else meanL xs fl L r (vals ++ [tellF xs vals fl L (x.top + 1) x.top]) n
/-- What Mean answers of a text. -/
def meanOf (l : List UInt8) (fl : List Int) : Bool × Nat := if (readOf l).1.1 = 0 then (meanL (readOf l).2.2 fl (readOf l).2.1 (readOf l).2.2 [] 0).getD (false, 0) else (false, 0)

/-- At an item, with what the ones ahead told. -/
def MeanAt (xs : List Itm) (L : List Pt) (j : Nat) (vals : List Int) : Prop :=
  ∃ its fr, ValsOK its vals ∧ its.length = j ∧ TreesAt L (xs.drop j) fr ∧ namesAt xs L (xs.drop j) fr j = none ∧ typesAt xs L (xs.drop j) its = none
theorem MeanAt.next {xs : List Itm} {L : List Pt} {fl : List Int} {j : Nat} {vals : List Int} (hL : PartsOK L) (hP : PlainOK L) (hF : FieldsOK fl) (h : MeanAt xs L j vals) (hj : j < xs.length) :
    MeanAt xs L (j + 1) (vals ++ [tellF xs vals fl L (xs[j].top + 1) xs[j].top]) := by
  obtain ⟨its, fr, hV, hl, hT, hN, hY⟩ := h
  rw [List.drop_eq_getElem_cons hj] at hT hN hY
  obtain ⟨hg, hn2⟩ := names_given hL hT.1 hT.2.1 hN
  rw [typesAt] at hY
  by_cases hc : (tyOf xs its L (xs[j].top + 1) xs[j].top).toNat = 0 ∨ (xs[j].name = [] ∧ (tyOf xs its L (xs[j].top + 1) xs[j].top).toNat ≠ 116)
  · rw [if_pos hc] at hY; simp at hY
  · rw [if_neg hc] at hY
    refine ⟨its ++ [tyOf xs its L (xs[j].top + 1) xs[j].top], xs[j].parts, hV.snoc ?_, by simp [hl], hT.2.2, hn2, hY⟩
    refine tell_has hV hF hP.num _ hT.1.fit (by rw [hl]; exact hg) fun e => hc (.inl (by rw [e]; rfl))
end Go.Proofs.YtfkdailfcmnjlaaGreatDoor

namespace Go.Proofs.YtfkdailfcmnjlaaGreatDoor
open Go Go.RowKit
set_option maxRecDepth 100000

/-- At an item, with what the ones ahead told, and their types. -/
def MeanAt2 (xs : List Itm) (L : List Pt) (j : Nat) (vals : List Int) : Prop :=
  ∃ its fr, ValsOK its vals ∧ its.length = j ∧ TreesAt L (xs.drop j) fr ∧ namesAt xs L (xs.drop j) fr j = none ∧ typesAt xs L (xs.drop j) its = none ∧ ∀ c ∈ its, isTy c
theorem MeanAt2.next {xs : List Itm} {L : List Pt} {fl : List Int} {j : Nat} {vals : List Int} (hL : PartsOK L) (hP : PlainOK L) (hF : FieldsOK fl) (h : MeanAt2 xs L j vals) (hj : j < xs.length) :
    MeanAt2 xs L (j + 1) (vals ++ [tellF xs vals fl L ((xs.getD j noItm).top + 1) (xs.getD j noItm).top]) := by
  obtain ⟨its, fr, hV, hl, hT, hN, hY, hI⟩ := h
  rw [drop_head hj noItm] at hT hN hY
  obtain ⟨hg0, hn2⟩ := names_given hL hT.1 hT.2.1 hN
  have hg : Given xs its.length L fr ((xs.getD j noItm).top + 1) := by rw [hl]; exact hg0
  rw [typesAt] at hY
  by_cases hc : (tyOf xs its L ((xs.getD j noItm).top + 1) (xs.getD j noItm).top).toNat = 0 ∨ ((xs.getD j noItm).name = [] ∧ (tyOf xs its L ((xs.getD j noItm).top + 1) (xs.getD j noItm).top).toNat ≠ 116)
  · rw [if_pos hc] at hY; simp at hY
  · rw [if_neg hc] at hY
    have hne : tyOf xs its L ((xs.getD j noItm).top + 1) (xs.getD j noItm).top ≠ 0 := fun e => hc (.inl (by rw [e]; rfl))
    refine ⟨its ++ [tyOf xs its L ((xs.getD j noItm).top + 1) (xs.getD j noItm).top], (xs.getD j noItm).parts, hV.snoc ?_, by simp [hl], hT.2.2, hn2, hY, ?_⟩
    · exact tell_has hV hF hP.num _ hT.1.fit hg hne
    · intro c hcm
      simp only [List.mem_append, List.mem_singleton] at hcm
      rcases hcm with hcm | rfl
      · exact hI c hcm
      · rcases tyOf_ty hP.tokw hI _ hT.1.fit hg with h0 | h0
        · exact absurd h0 hne
        · exact h0
end Go.Proofs.YtfkdailfcmnjlaaGreatDoor

namespace Go.Proofs.YtfkdailfcmnjlaaGreatDoor
open Go Go.RowKit
set_option maxRecDepth 100000
attribute [local go_sem ↓] Go.wp_at_zero Go.wp_at_succ

theorem PolAt.below {bs : Nat} {L : List Pt} {xs : List Itm} {base : Nat} {v : Value} {ys : List (Tok × Tok × Nat × Int)} {w w' : World} (h : PolAt bs L xs base v ys w) (hb : Below w.heap.size w w') : PolAt bs L xs base v ys w' :=
  ⟨ownsRow_below h.row hb, h.few, h.items.grow hb, h.trees, h.parts, h.tokw, h.names, h.types, h.numb, h.many⟩
end Go.Proofs.YtfkdailfcmnjlaaGreatDoor

namespace Go.Proofs.YtfkdailfcmnjlaaGreatDoor
open Go Go.RowKit
set_option maxRecDepth 100000

/-- What is known of a text that has a policy's words. -/
theorem read_pol {d : Nat} {l : List UInt8} {pol : List (SyI × List (Nat × List UInt8))} (hl : l.length ≤ 1000) (hx : LX l (polW pol)) (hp : ∀ p ∈ pol, RdS d 6 p.2 p.1.sy ∧ (p.1.name ≠ [] → p.1.allow = false)) :
    TreesAt (readOf l).2.1 (readOf l).2.2 0 ∧ PolIs d (readOf l).2.1 (readOf l).2.2 (pol.map Prod.fst) 0 ∧ (OkS d (pol.map Prod.fst) → (readOf l).1 = (0, 0)) := by
  obtain ⟨ts, h1, h2⟩ := lex_lx l (l.length + 1) 0 _ (hx _ (by simp))
  unfold readOf
  rw [if_neg (by omega), h1]
  simp only []
  obtain ⟨r1, r2, r3, r4, r5⟩ := lex_ok l (by omega) (l.length + 1) 0 _ (Nat.zero_le _) (by omega) h1
  obtain ⟨hwo, hwl⟩ := lex_words l (l.length + 1) 0 _ (Nat.zero_le _) (by omega) h1
  obtain ⟨R, hR⟩ := parse_total (F := 16 * ts.length + 8) (Nat.le_refl _) r4 (ts.length + 1) 0 [] [] (by omega)
  have e : allOf ts = R := by unfold allOf; rw [hR]; rfl
  rw [e]
  obtain ⟨m1, m2⟩ := mt_map h2
  obtain ⟨ok, new, xs', q1, q2, q3⟩ := parse_got pol _ 0 [] [] R hp m1 m2 hR
  obtain ⟨k1, k2, k3⟩ := all_known hwo (by omega) hR ok
  rw [List.nil_append] at q2
  subst q2
  exact ⟨k1, q3, fun h => (verdict_same ok k2 k1 q3).1.2 h⟩

/-- The tree of a part. -/
def syOf (L : List Pt) : Nat → Nat → Sy
  | 0, _ => noSy
  | f + 1, i => ⟨(L.getD i noPt).tok.k, (L.getD i noPt).tok.text, (L.getD i noPt).subs.map (syOf L f)⟩
/-- The words there are. -/
def TokG (t : Tok) : Prop := TokW t ∧ (t.k = 110 → decVal t.text ≤ 9223372036854775807) ∧ (t.k = 111 → t.text ≠ [] ∧ (∀ c ∈ t.text, isL c = true) ∧ isKw t.text = false ∧ t.text.length ≤ 8)
theorem kw_leaf : ∀ x ∈ spell.drop 11, alone ⟨107, x, 0⟩ = true → x ∈ leafWs := by decide
theorem kw_two : ∀ x ∈ spell.drop 11, ∀ n ∈ [0, 1, 3, 4], joins n ⟨107, x, 0⟩ = true → (107, x) ∈ twoWs := by decide
theorem sg_two : ∀ x ∈ (spell.drop 3).take 8, ∀ n ∈ [0, 1, 3, 4], joins n ⟨115, x, 0⟩ = true → (115, x) ∈ twoWs := by decide
theorem sg_not : ∀ x ∈ (spell.drop 3).take 8, x ≠ wNot ∧ x ≠ wIf := by decide
theorem alone_pl (t : Tok) : alone t = alone ⟨t.k, t.text, 0⟩ := rfl
theorem joins_pl (n : Nat) (t : Tok) : joins n t = joins n ⟨t.k, t.text, 0⟩ := rfl
theorem word_107 {t : Tok} {x : List UInt8} (hW : TokW t) (h : isW t x = true) (hx : x = wNot ∨ x = wIf) : t.k = 107 ∧ t.text = x := by
  unfold isW at h
  simp only [Bool.and_eq_true, Bool.or_eq_true, beq_iff_eq] at h
  obtain ⟨hk, ht⟩ := h
  refine ⟨?_, ht⟩
  rcases hW with h | h | h | ⟨h, _⟩ | ⟨h, hm⟩
  · omega
  · omega
  · omega
  · exact h
  · exfalso
    have := sg_not _ hm
    rw [ht] at this
    rcases hx with rfl | rfl
    · exact this.1 rfl
    · exact this.2 rfl
theorem tree_sy {L : List Pt} (hG : ∀ k, k < L.length → TokG (L.getD k noPt).tok) (f : Nat) : ∀ {lo i : Nat}, TreeF f L lo i → IsSy f L i (syOf L f i) ∧ ShS f (syOf L f i) ∧ cS f (syOf L f i) = i + 1 - lo := by
  have hcnt : ∀ (f : Nat) {lo i : Nat}, TreeF f L lo i → cS f (syOf L f i) = cnt f L i := by
    intro f
    induction f with
    | zero => intro lo i h; exact h.elim
    | succ f ih =>
      intro lo i h
      have hsub := forest_mem _ h.2.2
      rw [syOf, cS, cnt]
      have : ∀ js : List Nat, (∀ j ∈ js, cS f (syOf L f j) = cnt f L j) → ((js.map (syOf L f)).map (cS f)).sum = sumOf (cnt f L) js := by
        intro js
        induction js with
        | nil => intro _; rfl
        | cons j js ihj =>
          intro hj
          have := ihj fun q hq => hj q (by simp [hq])
          simp only [List.map_cons, List.sum_cons, sumOf]
          rw [hj j (by simp), this]
      simp only []
      rw [this _ fun j hj => ?_]
      obtain ⟨lo', hT⟩ := hsub j hj
      exact ih hT
  have key : ∀ (f : Nat) {lo i : Nat}, TreeF f L lo i → IsSy f L i (syOf L f i) ∧ ShS f (syOf L f i) := by
    intro f
    induction f with
    | zero => intro lo i h; exact h.elim
    | succ f ih =>
      intro lo i h
      have hsub := forest_mem _ h.2.2
      obtain ⟨hw, hn, ho⟩ := hG i h.1
      rw [syOf]
      refine ⟨⟨h.1, ⟨rfl, by split <;> rfl⟩, by simp, fun j hj => ?_⟩, ?_, fun c hc => ?_⟩
      · have hj' : j < (L.getD i noPt).subs.length := by simpa using hj
        have e : ((L.getD i noPt).subs.map (syOf L f)).getD j noSy = syOf L f ((L.getD i noPt).subs.getD j 0) := by
          generalize (L.getD i noPt).subs = q at *
          simp [List.getD_eq_getElem?_getD, List.getElem?_map, List.getElem?_eq_getElem hj']
        show IsSy f L _ (((L.getD i noPt).subs.map (syOf L f)).getD j noSy)
        rw [e]
        obtain ⟨lo', hT⟩ := hsub ((L.getD i noPt).subs.getD j 0) (by
          generalize (L.getD i noPt).subs = q at *
          rw [List.getD_eq_getElem?_getD, List.getElem?_eq_getElem hj']
          exact List.getElem_mem _)
        exact (ih hT).1
      · show (_ ∨ _ ∨ _ ∨ _)
        rcases h.2.1 with ⟨ha, hs⟩ | ⟨hx, hl⟩ | ⟨hx, hl⟩ | ⟨n, hc, hj, hl⟩
        · left
          refine ⟨by rw [hs]; rfl, ?_⟩
          by_cases h1 : (L.getD i noPt).tok.k = 110
          · exact .inl ⟨h1, hn h1⟩
          by_cases h2 : (L.getD i noPt).tok.k = 111
          · exact .inr (.inl ⟨h2, ho h2⟩)
          · right; right
            rw [alone_pl] at ha
            rcases hw with h | h | h | ⟨h, hm⟩ | ⟨h, hm⟩
            · exact absurd h h1
            · exact absurd h h2
            · rw [h] at ha; simp [alone] at ha
            · rw [h] at ha; exact ⟨h, kw_leaf _ hm ha⟩
            · rw [h] at ha; simp [alone] at ha
        · obtain ⟨e1, e2⟩ := word_107 hw hx (.inl rfl)
          exact .inr (.inl ⟨e1, e2, by simpa using hl⟩)
        · obtain ⟨e1, e2⟩ := word_107 hw hx (.inr rfl)
          exact .inr (.inr (.inl ⟨e1, e2, by simpa using hl⟩))
        · right; right; right
          refine ⟨?_, by simpa using hl⟩
          have hcn : n ∈ [0, 1, 3, 4] := by unfold isChain at hc; simp; omega
          rw [joins_pl] at hj
          rcases hw with h | h | h | ⟨h, hm⟩ | ⟨h, hm⟩
          · rw [h] at hj; simp [joins] at hj
          · rw [h] at hj; simp [joins] at hj
          · rw [h] at hj; simp [joins] at hj
          · rw [h] at hj ⊢; exact kw_two _ hm n hcn hj
          · rw [h] at hj ⊢; exact sg_two _ hm n hcn hj
      · obtain ⟨j, hj, rfl⟩ := List.mem_map.1 hc
        obtain ⟨lo', hT⟩ := hsub j hj
        exact (ih hT).2
  intro lo i h
  exact ⟨(key f h).1, (key f h).2, by rw [hcnt f h]; exact h.cnt⟩
/-- The own names that the cutter of words gives. -/
theorem lex_own (l : List UInt8) (f : Nat) : ∀ (a : Nat) (ts : List Tok), lex f l a = (ts, none) → ∀ t ∈ ts, t.k = 111 → t.text ≠ [] ∧ (∀ c ∈ t.text, isL c = true) ∧ isKw t.text = false ∧ t.text.length ≤ 8 := by
  induction f with
  | zero => intro a ts h; simp [lex] at h; subst h; simp
  | succ f ih =>
    intro a ts h
    rw [lex] at h
    split at h
    · simp at h; subst h; simp
    · rw [wordAt_drop] at h
      cases hw : wordS (l.drop (stop isB l a)) with
      | none => rw [hw] at h; simp at h
      | some w =>
        rw [hw] at h
        simp only [Option.map_some] at h
        simp only [Prod.mk.injEq] at h
        obtain ⟨rfl, h2⟩ := h
        have ih' := ih _ _ (Prod.ext rfl h2)
        intro t ht hk
        rcases List.mem_cons.1 ht with rfl | ht
        · generalize l.drop (stop isB l a) = s at hw
          unfold wordS at hw
          simp only [] at hk ⊢
          split at hw
          · split at hw
            · cases hw
            · simp at hw; rw [← hw] at hk; simp at hk
          · split at hw
            · rename_i hne
              split at hw
              · simp at hw; rw [← hw] at hk; simp at hk
              · rename_i hkw
                split at hw
                · rename_i hlen
                  simp at hw; subst hw
                  refine ⟨hne, fun c hc => ?_, by simpa using hkw, hlen⟩
                  have := List.all_takeWhile (l := s) (p := isL)
                  exact List.all_eq_true.1 this c hc
                · cases hw
            · split at hw
              · cases hw
              · split at hw
                · split at hw
                  · simp at hw; rw [← hw] at hk; simp at hk
                  · simp at hw; rw [← hw] at hk; simp at hk
                · split at hw
                  · simp at hw; rw [← hw] at hk; simp at hk
                  · cases hw
        · exact ih' t ht hk
theorem tail_it {F : Nat} {ts : List Tok} {i : Nat} {L : List Pt} {x : Itm} {r : ItR} (h : itemTail F ts i L x = some r) (ok : r.ok = true) : r.it.name = x.name ∧ r.it.allow = x.allow := by
  unfold itemTail at h
  split at h
  · cases h
  · split at h
    · split at h
      · simp at h; subst h; exact ⟨rfl, rfl⟩
      · simp [itFail] at h; subst h; simp at ok
    · simp [itFail] at h; subst h; simp at ok
theorem item_own {F : Nat} {ts : List Tok} {i : Nat} {L : List Pt} {r : ItR} (h : itemP F ts i L = some r) (ok : r.ok = true) : r.it.name = [] ∨ ((∃ t ∈ ts, t.k = 111 ∧ r.it.name = t.text) ∧ r.it.allow = false) := by
  unfold itemP at h
  split at h
  · split at h
    · rename_i hk
      split at h
      · obtain ⟨h1, h2⟩ := tail_it h ok
        have hm := (inside (ts := ts) (i := i + 1) fun e => by rw [e] at hk; exact absurd hk (by decide)).2
        exact .inr ⟨⟨_, hm, hk, h1⟩, h2⟩
      · simp [itFail] at h; subst h; simp at ok
    · simp [itFail] at h; subst h; simp at ok
  · split at h
    · split at h
      · exact .inl (tail_it h ok).1
      · simp [itFail] at h; subst h; simp at ok
    · simp [itFail] at h; subst h; simp at ok
theorem parse_own {F : Nat} {ts : List Tok} (g : Nat) : ∀ (i : Nat) (L : List Pt) (xs : List Itm) (R : AllR), (∀ x ∈ xs, x.name = [] ∨ ((∃ t ∈ ts, t.k = 111 ∧ x.name = t.text) ∧ x.allow = false)) → parseAll F ts g i L xs = some R → R.ok = true → ∀ x ∈ R.xs, x.name = [] ∨ ((∃ t ∈ ts, t.k = 111 ∧ x.name = t.text) ∧ x.allow = false) := by
  induction g with
  | zero => intro i L xs R _ h; rw [parseAll] at h; simp at h
  | succ g ih =>
    intro i L xs R hT h ok
    by_cases hk : (tokAt ts i).k = 101
    · have := parse_end h hk; subst this; exact hT
    · rw [parseAll, if_neg hk] at h
      cases hr : itemP F ts i L with
      | none => rw [hr] at h; simp at h
      | some r =>
        rw [hr] at h
        simp only at h
        by_cases okr : r.ok = true
        · rw [if_pos okr] at h
          refine ih r.i r.L (xs ++ [r.it]) R (fun x hx => ?_) h ok
          rcases List.mem_append.1 hx with hx | hx
          · exact hT x hx
          · rw [List.mem_singleton] at hx; subst hx; exact item_own hr okr
        · rw [if_neg okr] at h; simp at h; subst h; simp at ok
theorem pol_of {L : List Pt} {d : Nat} (hG : ∀ k, k < L.length → TokG (L.getD k noPt).tok) (hd : L.length ≤ d) {xs : List Itm} : ∀ {fr : Nat}, TreesAt L xs fr → PolIs d L xs (xs.map fun x => ⟨x.name, x.allow, syOf L d x.top⟩) fr ∧ ∀ x ∈ xs, ShS d (syOf L d x.top) := by
  induction xs with
  | nil => intro fr h; exact ⟨h.symm, by simp⟩
  | cons x xs ih =>
    intro fr h
    have hT := h.1.fit
    have hT' := hT.upto (g := d) (by have := hT.lt; omega)
    obtain ⟨h1, h2, h3⟩ := tree_sy hG d hT'
    obtain ⟨i1, i2⟩ := ih h.2.2
    refine ⟨⟨rfl, rfl, h1, h.2.1, by have := hT.le; rw [h3, ← h.2.1]; omega, i1⟩, fun y hy => ?_⟩
    rcases List.mem_cons.1 hy with rfl | hy
    · exact h2
    · exact i2 y hy
/-- A text that was read is a policy that was meant. -/
theorem known_pol (l : List UInt8) (h0 : (readOf l).1.1 = 0) : ∃ (d : Nat) (pol : List SyI), TreesAt (readOf l).2.1 (readOf l).2.2 0 ∧ PolIs d (readOf l).2.1 (readOf l).2.2 pol 0 ∧ OkS d pol ∧ ∀ s ∈ pol, ShS d s.sy ∧ NameOK s := by
  unfold readOf at *
  by_cases h1 : 1000 < l.length
  · rw [if_pos h1] at h0; simp at h0
  · rw [if_neg h1] at h0 ⊢
    cases hx : (lex (l.length + 1) l 0).2 with
    | some p => rw [hx] at h0; simp at h0
    | none =>
      rw [hx] at h0
      simp only [] at h0 ⊢
      have hlex : lex (l.length + 1) l 0 = ((lex (l.length + 1) l 0).1, none) := by rw [← hx]
      obtain ⟨r1, r2, r3, r4, r5⟩ := lex_ok l (by omega) (l.length + 1) 0 _ (Nat.zero_le _) (by omega) hlex
      obtain ⟨hwo, hwl⟩ := lex_words l (l.length + 1) 0 _ (Nat.zero_le _) (by omega) hlex
      have hown := lex_own l _ 0 _ hlex
      generalize (lex (l.length + 1) l 0).1 = ts at *
      obtain ⟨R, hR⟩ := parse_total (F := 16 * ts.length + 8) (Nat.le_refl _) r4 (ts.length + 1) 0 [] [] (by omega)
      have e : allOf ts = R := by unfold allOf; rw [hR]; rfl
      rw [e] at h0 ⊢
      have ok : R.ok = true := by
        cases hk : R.ok with
        | true => rfl
        | false => unfold verdictOf at h0; rw [if_pos hk] at h0; simp at h0
      obtain ⟨k1, k2, k3⟩ := all_known hwo (by omega) hR ok
      obtain ⟨_, k4, _, _⟩ := parse_trees hwo.sorted _ 0 [] [] R rfl ⟨by simp, by simp, by simp⟩ (by simp) (by omega) hR ok
      have k5 := parse_own _ 0 [] [] R (by simp) hR ok
      have hG : ∀ k, k < R.L.length → TokG (R.L.getD k noPt).tok := fun k hk => ⟨k3 k hk, fun hn => ((r3 _ (k4.2.2 k hk)).2 hn).2, fun ho => hown _ (k4.2.2 k hk) ho⟩
      obtain ⟨q1, q2⟩ := pol_of (d := R.L.length) hG (Nat.le_refl _) k1
      refine ⟨R.L.length, _, k1, q1, (verdict_same ok k2 k1 q1).2 h0, fun s hs => ?_⟩
      obtain ⟨x, hx, rfl⟩ := List.mem_map.1 hs
      refine ⟨q2 x hx, ?_⟩
      rcases k5 x hx with h | ⟨⟨t, ht, hk, h⟩, ha⟩
      · exact .inl h
      · obtain ⟨o1, o2, o3, o4⟩ := hown t ht hk
        exact .inr ⟨by rw [h]; exact o2, by rw [h]; exact o3, by rw [h]; exact o4, ha⟩
/-- What a policy that was meant gives when its text is read. -/
theorem text_pol {d : Nat} {l : List UInt8} {pol : List (SyI × List (Nat × List UInt8))} (hl : l.length ≤ 1000) (hx : LX l (polW pol)) (hp : ∀ p ∈ pol, RdS d 6 p.2 p.1.sy ∧ (p.1.name ≠ [] → p.1.allow = false)) (ok : OkS d (pol.map Prod.fst)) : (readOf l).1 = (0, 0) ∧ textOf l = printS d (pol.map Prod.fst) := by
  obtain ⟨h1, h2, h3⟩ := read_pol hl hx hp
  have h4 := h3 ok
  refine ⟨h4, ?_⟩
  unfold textOf
  rw [if_pos (by rw [h4]), print_same h1 h2]
/-- The words of a plain form are those of the policy. -/
theorem printed_rd {d : Nat} {pol : List SyI} (h : ∀ s ∈ pol, ShS d s.sy ∧ NameOK s) : ∀ p ∈ pol.map (fun s => (s, wordsF d s.sy)), RdS d 6 p.2 p.1.sy ∧ (p.1.name ≠ [] → p.1.allow = false) := by
  intro p hp
  obtain ⟨s, hs, rfl⟩ := List.mem_map.1 hp
  obtain ⟨h1, h2⟩ := h s hs
  obtain ⟨r1, r2⟩ := plain_rd d h1
  refine ⟨r1.out r2 (Nat.le_refl 6), fun hn => ?_⟩
  rcases h2 with h | ⟨_, _, _, h⟩
  · exact absurd h hn
  · exact h
theorem fst_map {pol : List SyI} (W : Sy → List (Nat × List UInt8)) : (pol.map fun s => (s, W s.sy)).map Prod.fst = pol := by
  rw [List.map_map]; exact List.map_id pol
/-- A plain form is its own. -/
theorem text_again (l : List UInt8) (h0 : (readOf l).1.1 = 0) (hl : (textOf l).length ≤ 1000) : (readOf (textOf l)).1 = (0, 0) ∧ textOf (textOf l) = textOf l := by
  obtain ⟨d, pol, h1, h2, h3, h4⟩ := known_pol l h0
  have e : textOf l = printS d pol := by unfold textOf; rw [if_pos h0, print_same h1 h2]
  rw [e] at hl ⊢
  have := text_pol (d := d) hl (print_lex pol h4) (printed_rd h4) (by rw [fst_map]; exact h3)
  rw [fst_map] at this
  exact this
end Go.Proofs.YtfkdailfcmnjlaaGreatDoor

namespace Go.Proofs.YtfkdailfcmnjlaaGreatDoor
open Go Go.RowKit
set_option maxRecDepth 100000

theorem lex_pl (l : List UInt8) (f : Nat) : ∀ (a : Nat), a ≤ l.length → (∀ t ∈ (lex f l a).1, t.pl ≤ l.length) ∧ ∀ p, (lex f l a).2 = some p → p ≤ l.length := by
  induction f with
  | zero => intro a _; exact ⟨by simp [lex], by simp [lex]⟩
  | succ f ih =>
    intro a ha
    rw [lex]
    have hs := stop_le isB l a ha
    split
    · exact ⟨by simp, by simp⟩
    · rename_i hlt
      cases hw : wordAt l (stop isB l a) with
      | none => exact ⟨by simp, by simp; omega⟩
      | some t =>
        simp only []
        have hpl : t.pl = stop isB l a := by
          rw [wordAt_drop] at hw
          cases hx : wordS (l.drop (stop isB l a)) with
          | none => rw [hx] at hw; simp at hw
          | some w => rw [hx] at hw; simp at hw; rw [← hw]
        by_cases hle : stop isB l a + t.text.length ≤ l.length
        · obtain ⟨h1, h2⟩ := ih _ hle
          refine ⟨fun q hq => ?_, h2⟩
          rcases List.mem_cons.1 hq with rfl | hq
          · omega
          · exact h1 q hq
        · -- a word that would end behind the text: nothing follows
          have hst : stop isB l (stop isB l a + t.text.length) = stop isB l a + t.text.length := stop_end _ _ _ (by omega)
          have he : lex f l (stop isB l a + t.text.length) = ([], none) ∨ lex f l (stop isB l a + t.text.length) = ([⟨101, [], l.length⟩], none) := by
            cases f with
            | zero => exact .inl rfl
            | succ f => right; rw [lex, hst, if_pos (by omega)]
          rcases he with he | he
          · rw [he]; exact ⟨by simp; omega, by simp⟩
          · rw [he]; exact ⟨by simp; omega, by simp⟩
theorem tok_pl {ts : List Tok} {N : Nat} (h : ∀ t ∈ ts, t.pl ≤ N) (i : Nat) : (tokAt ts i).pl ≤ N := by
  unfold tokAt
  rw [List.getD_eq_getElem?_getD]
  cases hx : ts[i]? with
  | none => simp [noTok]
  | some t => exact h t (List.mem_of_getElem? hx)
theorem tail_pl {F : Nat} {ts : List Tok} {i : Nat} {L : List Pt} {x : Itm} {r : ItR} (h : itemTail F ts i L x = some r) (ok : r.ok = true) : r.it.pl = x.pl ∧ r.it.named = x.named := by
  unfold itemTail at h
  split at h
  · cases h
  · split at h
    · split at h
      · simp at h; subst h; exact ⟨rfl, rfl⟩
      · simp [itFail] at h; subst h; simp at ok
    · simp [itFail] at h; subst h; simp at ok
theorem item_pl {F : Nat} {ts : List Tok} {N i : Nat} {L : List Pt} {r : ItR} (ht : ∀ t ∈ ts, t.pl ≤ N) (h : itemP F ts i L = some r) (ok : r.ok = true) : r.it.pl ≤ N ∧ r.it.named ≤ N := by
  unfold itemP at h
  split at h
  · split at h
    · split at h
      · obtain ⟨h1, h2⟩ := tail_pl h ok
        rw [h1, h2]; exact ⟨tok_pl ht _, tok_pl ht _⟩
      · simp [itFail] at h; subst h; simp at ok
    · simp [itFail] at h; subst h; simp at ok
  · split at h
    · split at h
      · obtain ⟨h1, h2⟩ := tail_pl h ok
        rw [h1, h2]; exact ⟨tok_pl ht _, Nat.zero_le _⟩
      · simp [itFail] at h; subst h; simp at ok
    · simp [itFail] at h; subst h; simp at ok
theorem parse_pl {F : Nat} {ts : List Tok} {N : Nat} (ht : ∀ t ∈ ts, t.pl ≤ N) (g : Nat) : ∀ (i : Nat) (L : List Pt) (xs : List Itm) (R : AllR), (∀ x ∈ xs, x.pl ≤ N ∧ x.named ≤ N) → parseAll F ts g i L xs = some R → R.ok = true → ∀ x ∈ R.xs, x.pl ≤ N ∧ x.named ≤ N := by
  induction g with
  | zero => intro i L xs R _ h; rw [parseAll] at h; simp at h
  | succ g ih =>
    intro i L xs R hT h ok
    by_cases hk : (tokAt ts i).k = 101
    · have := parse_end h hk; subst this; exact hT
    · rw [parseAll, if_neg hk] at h
      cases hr : itemP F ts i L with
      | none => rw [hr] at h; simp at h
      | some r =>
        rw [hr] at h
        simp only at h
        by_cases okr : r.ok = true
        · rw [if_pos okr] at h
          refine ih r.i r.L (xs ++ [r.it]) R (fun x hx => ?_) h ok
          rcases List.mem_append.1 hx with hx | hx
          · exact hT x hx
          · rw [List.mem_singleton] at hx; subst hx; exact item_pl ht hr okr
        · rw [if_neg okr] at h; simp at h; subst h; simp at ok
theorem many_pl {L : List Pt} {N : Nat} (xs : List Itm) : (∀ x ∈ xs, x.pl ≤ N) → ∀ lets i p, manyAt L xs lets i = some p → p ≤ N := by
  induction xs with
  | nil => intro _ lets i p h; simp [manyAt] at h
  | cons x xs ih =>
    intro hx lets i p h
    rw [manyAt] at h
    generalize lets + (if x.name == [] then 0 else 1) = q at h
    split at h
    · simp at h; rw [← h]; exact hx x (by simp)
    · exact ih (fun y hy => hx y (by simp [hy])) _ _ _ h
theorem types_pl {L : List Pt} {N : Nat} {ys : List Itm} (xs : List Itm) : (∀ x ∈ xs, x.pl ≤ N) → ∀ its p, typesAt ys L xs its = some p → p ≤ N := by
  induction xs with
  | nil => intro _ its p h; simp [typesAt] at h
  | cons x xs ih =>
    intro hx its p h
    rw [typesAt] at h
    split at h
    · simp at h; rw [← h]; exact hx x (by simp)
    · exact ih (fun y hy => hx y (by simp [hy])) _ _ h
theorem better_pl {N pl : Nat} {o : Option Nat} (h1 : pl ≤ N) (h2 : ∀ p, o = some p → p ≤ N) : ∀ p, better pl o = some p → p ≤ N := by
  intro p h
  cases o with
  | none => simp [better] at h; omega
  | some q =>
    have := h2 q rfl
    simp only [better] at h
    split at h <;> (simp at h; omega)
theorem wrong_pl {L : List Pt} {N : Nat} {ys : List Itm} {i : Nat} (hL : ∀ k, (L.getD k noPt).tok.pl ≤ N) (c : Nat) : ∀ k o, (∀ p, o = some p → p ≤ N) → ∀ p, wrongAt ys L i c k o = some p → p ≤ N := by
  induction c with
  | zero => intro k o h p hp; exact h p hp
  | succ c ih =>
    intro k o h p hp
    rw [wrongAt] at hp
    refine ih _ _ (fun q hq => ?_) p hp
    unfold wrongStep at hq
    split at hq
    · exact better_pl (hL k) h q hq
    · exact h q hq
theorem names_pl {L : List Pt} {N : Nat} {ys : List Itm} (hL : ∀ k, (L.getD k noPt).tok.pl ≤ N) (xs : List Itm) : (∀ x ∈ xs, x.named ≤ N) → ∀ fr i p, namesAt ys L xs fr i = some p → p ≤ N := by
  induction xs with
  | nil => intro _ fr i p h; simp [namesAt] at h
  | cons x xs ih =>
    intro hx fr i p h
    rw [namesAt] at h
    split at h
    · simp at h; rw [← h]; exact hx x (by simp)
    · cases hw : wrongAt ys L i (x.parts - fr) fr none with
      | some q =>
        rw [hw] at h; simp at h; rw [← h]
        exact wrong_pl hL _ _ _ (by simp) q hw
      | none =>
        rw [hw] at h; simp at h
        exact ih (fun y hy => hx y (by simp [hy])) _ _ _ h
/-- The place lies in the text. -/
theorem place_le (l : List UInt8) : (readOf l).1.2 ≤ l.length := by
  unfold readOf
  by_cases h1 : 1000 < l.length
  · rw [if_pos h1]; exact Nat.zero_le _
  · rw [if_neg h1]
    obtain ⟨tp, lp⟩ := lex_pl l (l.length + 1) 0 (Nat.zero_le _)
    cases hx : (lex (l.length + 1) l 0).2 with
    | some p => exact lp p hx
    | none =>
      simp only []
      have hlex : lex (l.length + 1) l 0 = ((lex (l.length + 1) l 0).1, none) := by rw [← hx]
      obtain ⟨r1, r2, r3, r4, r5⟩ := lex_ok l (by omega) (l.length + 1) 0 _ (Nat.zero_le _) (by omega) hlex
      obtain ⟨hwo, hwl⟩ := lex_words l (l.length + 1) 0 _ (Nat.zero_le _) (by omega) hlex
      generalize (lex (l.length + 1) l 0).1 = ts at *
      obtain ⟨R, hR⟩ := parse_total (F := 16 * ts.length + 8) (Nat.le_refl _) r4 (ts.length + 1) 0 [] [] (by omega)
      have e : allOf ts = R := by unfold allOf; rw [hR]; rfl
      rw [e]
      unfold verdictOf
      by_cases ok : R.ok = false
      · rw [if_pos ok]; exact tok_pl tp _
      · rw [if_neg ok]
        have ok' : R.ok = true := by simpa using ok
        have hxs := parse_pl tp _ 0 [] [] R (by simp) hR ok'
        obtain ⟨_, k4, _, _⟩ := parse_trees hwo.sorted _ 0 [] [] R rfl ⟨by simp, by simp, by simp⟩ (by simp) (by omega) hR ok'
        have hL : ∀ k, (R.L.getD k noPt).tok.pl ≤ l.length := fun k => by
          by_cases hk : k < R.L.length
          · exact tp _ (k4.2.2 k hk)
          · rw [List.getD_eq_getElem?_getD, List.getElem?_eq_none (by omega)]; simp [noPt, noTok]
        cases hm : manyAt R.L R.xs 0 0 with
        | some p => exact many_pl R.xs (fun x hx => (hxs x hx).1) _ _ p hm
        | none =>
          simp only []
          cases hn : namesAt R.xs R.L R.xs 0 0 with
          | some p => exact names_pl hL R.xs (fun x hx => (hxs x hx).2) _ _ p hn
          | none =>
            simp only []
            cases ht : typesAt R.xs R.L R.xs [] with
            | some p => exact types_pl R.xs (fun x hx => (hxs x hx).1) _ p ht
            | none => exact Nat.zero_le _
end Go.Proofs.YtfkdailfcmnjlaaGreatDoor
