/-
  The program's names: a condition. The program's names: every condition. The program's names: a whole policy. The program's types: a condition. The program's types: every condition. The program's types: every condition, as the plain reading says.
-/
import Derived.Test.YtfkdailfcmnjlaaGreatDoorPlain01
import Derived.Test.YtfkdailfcmnjlaaGreatDoorPlain02
import Derived.Test.YtfkdailfcmnjlaaGreatDoorPlain03
import Derived.Test.YtfkdailfcmnjlaaGreatDoorPlain04
import Derived.Test.YtfkdailfcmnjlaaGreatDoorPlain05
import Derived.Test.YtfkdailfcmnjlaaGreatDoorPlain06
import Derived.Test.YtfkdailfcmnjlaaGreatDoorPlain07
import Derived.Test.YtfkdailfcmnjlaaGreatDoorLays
import Derived.WalkKit
import Derived.Deep.QuietTactic
import Derived.BigQuiet
import Derived.WalkSpells
import GoSem.Op.String
import Derived.Deep.AppendLies
import Derived.Deep.RegionHeld3
import Derived.Deep.DrawnRows
import Derived.Deep.RegionHeldLaw
import Derived.Deep.RegionLaw
import Derived.Lib.ParseIntBCases
import Derived.Deep.OwnRows
set_option linter.unusedVariables false
set_option linter.unusedSimpArgs false
namespace Go.Proofs.YtfkdailfcmnjlaaGreatDoor
open Go Go.RowKit
set_option maxRecDepth 100000
attribute [local go_sem ↓] Go.wp_at_zero Go.wp_at_succ
variable {bs : Nat}

/-- What naming leaves as it was: all but the notes of conditions, of which something is said. -/
structure RF (SS : Nat → Nat → List UInt8 → Int → Prop) (w w' : World) : Prop where
  os : w'.os = w.os
  tape : w'.tape = w.tape
  output : w'.output = w.output
  size : w.heap.size ≤ w'.heap.size
  block : ∀ k, k < w.heap.size → w'.heap[k]? = w.heap[k]? ∨ ∃ t u n n', w.heap[k]? = some (cdObj t u n) ∧ w'.heap[k]? = some (cdObj t u n') ∧ SS k (kindOf t) (ownOf t) n'
theorem cd_inj {t t' : Tok} {u u' : Value} {n n' : Int} (h : cdObj t u n = cdObj t' u' n') : kindOf t = kindOf t' ∧ ownOf t = ownOf t' ∧ ∀ m, cdObj t u m = cdObj t' u' m := by
  have h' := h
  unfold cdObj at h'
  simp only [Obj.cells.injEq] at h'
  obtain ⟨ha, _⟩ := h'
  have hl := congrArg Array.toList ha
  simp only [List.cons.injEq, Value.int.injEq, true_and] at hl
  obtain ⟨h1, h2, h3, h4, h5, h6, _⟩ := hl
  have e4 : ownOf t = ownOf t' := by simpa [S] using h4
  have e1 : kindOf t = kindOf t' := by exact Int.ofNat.inj h1
  refine ⟨e1, e4, fun m => ?_⟩
  unfold cdObj; rw [h1, h2, h3, e4, h5]
theorem RF.refl (SS : Nat → Nat → List UInt8 → Int → Prop) (w : World) : RF SS w w := ⟨rfl, rfl, rfl, Nat.le_refl _, fun _ _ => .inl rfl⟩
theorem RF.trans {SS : Nat → Nat → List UInt8 → Int → Prop} {w w1 w2 : World} (h : RF SS w w1) (k : RF SS w1 w2) : RF SS w w2 := by
  refine ⟨k.os.trans h.os, k.tape.trans h.tape, k.output.trans h.output, Nat.le_trans h.size k.size, fun j hj => ?_⟩
  rcases k.block j (Nat.lt_of_lt_of_le hj h.size) with e | ⟨t, u, n, n', e1, e2, e3⟩
  · rcases h.block j hj with f | ⟨t, u, n, n', f1, f2, f3⟩
    · exact .inl (e.trans f)
    · exact .inr ⟨t, u, n, n', f1, e.trans f2, f3⟩
  · rcases h.block j hj with f | ⟨t', u', m, m', f1, f2, f3⟩
    · exact .inr ⟨t, u, n, n', f.symm.trans e1, e2, e3⟩
    · rw [f2] at e1
      have hc := (cd_inj (Option.some.inj e1)).2.2 m
      exact .inr ⟨t, u, m, n', by rw [f1, hc], e2, e3⟩
theorem RF.mono {SS SS' : Nat → Nat → List UInt8 → Int → Prop} (hS : ∀ q k o n, SS q k o n → SS' q k o n) {w w' : World} (h : RF SS w w') : RF SS' w w' :=
  ⟨h.os, h.tape, h.output, h.size, fun k hk => (h.block k hk).imp id fun ⟨t, u, n, n', a, b, c⟩ => ⟨t, u, n, n', a, b, hS _ _ _ _ c⟩⟩
theorem RF.of_below {SS : Nat → Nat → List UInt8 → Int → Prop} {w w' : World} (h : Below w.heap.size w w') : RF SS w w' := ⟨h.os, h.tape, h.output, h.size, fun k hk => .inl (h.block k hk)⟩
theorem RF.drew {SS : Nat → Nat → List UInt8 → Int → Prop} {w w' : World} (h : RF SS w w') : RF SS w w'.drew := ⟨h.os, h.tape, h.output, h.size, h.block⟩
theorem RF.other {SS : Nat → Nat → List UInt8 → Int → Prop} {w w' : World} (h : RF SS w w') {k : Nat} {cs : Array Value} {ty : TypeId} {fr : Nat × Nat} (hk : w.heap[k]? = some (.cells cs ty fr)) (ht : ty ≠ 229) : w'.heap[k]? = w.heap[k]? := by
  rcases h.block k (lt_of_get hk) with e | ⟨t, u, n, n', e1, _⟩
  · exact e
  · rw [hk] at e1
    simp only [cdObj, Option.some.injEq, Obj.cells.injEq] at e1
    exact absurd e1.2.1 ht
theorem CondS.rf {L : List Pt} {N : Tok → Int → Prop} {SS : Nat → Nat → List UInt8 → Int → Prop} {w w' : World} {i b : Nat} (h : CondS bs L N w i b) (hf : RF SS w w') (hN : ∀ q t n, SS q (kindOf t) (ownOf t) n → N t n) : CondS bs L N w' i b := by
  refine h.ind (fun i b => CondS bs L N w' i b) ?_
  · intro i b u n bl hi hlo hn hb hu hs ih
    have hu' : UnderAt w' u (L.getD i noPt).subs.length bl := by
      rcases hu with hu | ⟨h0, g, h1, h2⟩
      · exact .inl hu
      · exact .inr ⟨h0, g, h1, by rw [hf.other h2 (by decide)]; exact h2⟩
    rcases hf.block b (lt_of_get hb) with e | ⟨t, u', m, m', e1, e2, e3⟩
    · exact .mk i b u n bl hi hlo hn (e.trans hb) hu' ih
    · rw [hb] at e1
      obtain ⟨k1, k2, k3⟩ := cd_inj (Option.some.inj e1)
      refine .mk i b u m' bl hi hlo (hN _ _ _ (by rw [k1, k2]; exact e3)) ?_ hu' ih
      rw [e2, k3]
theorem StrAt.rf {SS : Nat → Nat → List UInt8 → Int → Prop} {w w' : World} {a : Option Addr} {l : List (List UInt8)} (h : StrAt w a l) (hf : RF SS w w') : StrAt w' a l := by
  intro j hj
  obtain ⟨g, h1, ⟨cs, h2⟩, h3⟩ := h j hj
  have e := hf.other h2 (by decide)
  exact ⟨g, h1, ⟨cs, by rw [e]; exact h2⟩, by rw [World.cell?_of_block (w := w) e]; exact h3⟩
def SB (bs : Nat) (q _k : Nat) (_o : List UInt8) (_n : Int) : Prop := bs ≤ q
/-- What is not below a bound stays. -/
theorem RF.below {w w' : World} (h : RF (SB bs) w w') {B : Nat} (hB : B ≤ bs) (hw : B ≤ w.heap.size) : Below B w w' := ⟨h.os, h.tape, h.output, h.size, fun k hk => by
  rcases h.block k (by omega) with e | ⟨_, _, _, _, _, _, e⟩
  · exact e
  · have : bs ≤ k := e
    omega⟩
/-- A note that is not yet, or is right. -/
def N0 (ix : List UInt8 → Int) (t : Tok) (n : Int) : Prop := n = 0 ∨ (kindOf t = 2 ∧ n = ix (ownOf t))
/-- A note that is right. -/
def N1 (ix : List UInt8 → Int) (t : Tok) (n : Int) : Prop := n = if kindOf t = 2 then ix (ownOf t) else 0
def SX (bs : Nat) (ix : List UInt8 → Int) (q k : Nat) (o : List UInt8) (n : Int) : Prop := bs ≤ q ∧ k = 2 ∧ n = ix o
theorem N0_ok {ix : List UInt8 → Int} (q : Nat) (t : Tok) (n : Int) (h : SX bs ix q (kindOf t) (ownOf t) n) : N0 ix t n := .inr h.2
theorem N1_ok {ix : List UInt8 → Int} (q : Nat) (t : Tok) (n : Int) (h : SX bs ix q (kindOf t) (ownOf t) n) : N1 ix t n := by unfold N1; rw [if_pos h.2.1]; exact h.2.2
/-- What naming a condition answers. -/
def ResAns (bs : Nat) (L : List Pt) (ix : List UInt8 → Int) (w : World) (i b : Nat) (o : Option Nat) (e : Ending) (w' : World) : Prop :=
  (∃ p, o = some p ∧ e = .returned (.tuple #[.int .i64 p, .bool false]) ∧ RF (SB bs) w w') ∨
  (o = none ∧ ∃ p : Nat, e = .returned (.tuple #[.int .i64 p, .bool true]) ∧ RF (SX bs ix) w w' ∧ CondS bs L (N1 ix) w' i b)

theorem cd_set {w : World} {b : Nat} {t : Tok} {u : Value} {n : Int} (h : w.heap[b]? = some (cdObj t u n)) (m : Int) : (w.setCell ⟨b, 5, none⟩ (.int .i64 m)).heap[b]? = some (cdObj t u m) := by
  unfold cdObj at h ⊢
  rw [heap_setCell_same w b 5 _ _ _ h]; rfl
theorem RF.note {SS : Nat → Nat → List UInt8 → Int → Prop} {w : World} {b : Nat} {t : Tok} {u : Value} {n : Int} (h : w.heap[b]? = some (cdObj t u n)) (m : Int) (hS : SS b (kindOf t) (ownOf t) m) : RF SS w (w.setCell ⟨b, 5, none⟩ (.int .i64 m)) := by
  refine ⟨rfl, rfl, rfl, by simp, fun k hk => ?_⟩
  by_cases e : k = b
  · subst e; exact .inr ⟨t, u, n, m, h, cd_set h m, hS⟩
  · exact .inl (Below.heap_setCell _ _ _ _ (by simpa using e))

set_option maxHeartbeats 4000000 in
theorem cresolve_own {L : List Pt} {G : List (List UInt8)} {ix : List UInt8 → Int} (hG : G.length ≤ 2000) (hix : ∀ s, 0 ≤ idx G s → ix s = idx G s) (f : Nat) {lo i b cap : Nat} {a : Option Addr} {w : World} (hT : TreeF (f + 1) L lo i) (hC : CondS bs L (N0 ix) w i b) (hS : StrAt w a G) (ho : (L.getD i noPt).tok.k = 111) :
    Calls Tryz.prog 110 #[.pointer (some ⟨b, 0, none⟩), .slice a G.length cap] w (ResAns bs L ix w i b (resF (fun t => decide (idx G (ownOf t) < 0)) (f + 1) L i)) := by
  have hsub := shape_leaf hT.2.1 ho
  obtain ⟨u, n, bl, hi, hlo, hn, hb, hu, hs⟩ := hC.inv
  obtain ⟨⟨c0, c1, c2, c3, c4, c5⟩, cf⟩ := cd_cells hb
  have hr : resF (fun t => decide (idx G (ownOf t) < 0)) (f + 1) L i = if idx G (ownOf (L.getD i noPt).tok) < 0 then some (L.getD i noPt).tok.pl else none := by
    rw [resF, if_pos ho]; simp
  have HR : Hid _ := hr
  have hk2 := kind_two.2 ho
  rw [hk2] at c0
  generalize resF (fun t => decide (idx G (ownOf t) < 0)) (f + 1) L i = o at *
  have HI := strIndex_any G (ownOf (L.getD i noPt).tok) a cap w hG hS
  have hfail := fun h : idx G (ownOf (L.getD i noPt).tok) < 0 => RF.note (SS := SB bs) hb (idx G (ownOf (L.getD i noPt).tok)) hlo
  have hgood := fun h : 0 ≤ idx G (ownOf (L.getD i noPt).tok) => RF.note (SS := SX bs ix) hb (idx G (ownOf (L.getD i noPt).tok)) ⟨hlo, hk2, (hix _ h).symm⟩
  have hcd := cd_set hb (idx G (ownOf (L.getD i noPt).tok))
  have hnew : 0 ≤ idx G (ownOf (L.getD i noPt).tok) → CondS bs L (N1 ix) (w.setCell ⟨b, 5, none⟩ (.int .i64 (idx G (ownOf (L.getD i noPt).tok)))) i b := fun h0 =>
    .mk i b u _ bl hi hlo (by unfold N1; rw [if_pos hk2]; exact (hix _ h0).symm) hcd (by rw [hsub] at hu ⊢; rcases hu with hu | hu; exact .inl hu; simp at hu) (by rw [hsub]; intro j hj; simp at hj)
  have HF : Hid _ := hfail
  have HGo : Hid _ := hgood
  have HN : Hid _ := hnew
  have hge := idx_ge G (ownOf (L.getD i noPt).tok)
  obtain ⟨⟨d0, d1, d2, d3, d4, d5⟩, df⟩ := cd_cells hcd
  have HCD : Hid _ := hcd
  clear hr hfail hgood hnew hs hu hn hb hS hix hsub hT hcd
  have hle2 : idx G (ownOf (L.getD i noPt).tok) ≤ 2000 := by
    rcases idx_le G (ownOf (L.getD i noPt).tok) with h | h
    · omega
    · rw [h]; simp [idx]
  generalize idx G (ownOf (L.getD i noPt).tok) = r at *
  generalize (L.getD i noPt).tok.pl = p at *
  generalize ownOf (L.getD i noPt).tok = nm at *
  go_enter Tryz.func110, Tryz.ntmps110
  go_wp2_with fail
  refine HI.mono ?_
  rintro e w' ⟨rfl, rfl⟩
  clear HI
  go_wp2_with fail
  clear c0 c1 c2 c3 c4 c5 cf d0 d2 d3 d4
  have HA : Hid (ResAns bs L ix w' i b o (.returned (.tuple #[.int .i64 p, .bool (decide (0 ≤ r))])) (w'.setCell ⟨b, 5, none⟩ (.int .i64 r)).drew) := by
    by_cases h0 : r < 0
    · have e : o = some p := by rw [HR.out, if_pos h0]
      refine .inl ⟨p, e, ?_, (HF.out h0).drew⟩
      rw [decide_eq_false (by omega)]
    · have e : o = none := by rw [HR.out, if_neg h0]
      refine .inr ⟨e, p, ?_, (HGo.out (by omega)).drew, (HN.out (by omega)).keep fun _ _ _ _ _ => rfl⟩
      rw [decide_eq_true (by omega)]
  clear HR HF HGo HN HCD
  generalize w'.setCell ⟨b, 5, none⟩ (.int .i64 r) = w2 at *
  go_region_held (fun w'' => w''.cell? ⟨b, 1, none⟩ = some (.int .i64 p) ∧ w''.cell? ⟨b, 5, none⟩ = some (.int .i64 r)) (go_keep) (fail)
  go_wp2_with fail
  refine bodyPost_ret (v := .tuple #[.int .i64 p, .bool (decide (0 ≤ r))]) (by simp [results, Tryz.results110, go_sem]) rfl ?_
  exact HA.out
end Go.Proofs.YtfkdailfcmnjlaaGreatDoor

namespace Go.Proofs.YtfkdailfcmnjlaaGreatDoor
open Go Go.RowKit
set_option maxRecDepth 100000
attribute [local go_sem ↓] Go.wp_at_zero Go.wp_at_succ
variable {bs : Nat}

theorem firstOf_step (F : Nat → Option Nat) (js : List Nat) (k : Nat) (hk : k < js.length) : firstOf F (js.drop k) = match F (js.getD k 0) with | some p => some p | none => firstOf F (js.drop (k + 1)) := by
  rw [drop_head hk 0, firstOf]
  cases F (js.getD k 0) <;> rfl
set_option maxHeartbeats 8000000 in
theorem cresolve_any {L : List Pt} {G : List (List UInt8)} {ix : List UInt8 → Int} (hG : G.length ≤ 2000) (hix : ∀ s, 0 ≤ idx G s → ix s = idx G s) (f : Nat) : ∀ {lo i b cap : Nat} {a : Option Addr} {w : World}, TreeF f L lo i → CondS bs L (N0 ix) w i b → StrAt w a G →
    Calls Tryz.prog 110 #[.pointer (some ⟨b, 0, none⟩), .slice a G.length cap] w (ResAns bs L ix w i b (resF (fun t => decide (idx G (ownOf t) < 0)) f L i)) := by
  induction f with
  | zero => intro lo i b cap a w h; exact h.elim
  | succ f ih =>
    intro lo i b cap a w hT hC hS
    by_cases ho : (L.getD i noPt).tok.k = 111
    · exact cresolve_own hG hix f hT hC hS ho
    · obtain ⟨u, n, bl, hi, hlo, hn, hb, hu, hs⟩ := hC.inv
      obtain ⟨⟨c0, c1, c2, c3, c4, c5⟩, cf⟩ := cd_cells hb
      have hr : resF (fun t => decide (idx G (ownOf t) < 0)) (f + 1) L i = firstOf (resF (fun t => decide (idx G (ownOf t) < 0)) f L) (L.getD i noPt).subs := by
        rw [resF, if_neg ho]
      rw [hr]
      have hk2 : kindOf (L.getD i noPt).tok ≠ 2 := fun e => ho (kind_two.1 e)
      have hk3 : ((kindOf (L.getD i noPt).tok : Int) == (2 : Int)) = false := by
        have : ¬ ((kindOf (L.getD i noPt).tok : Int) = 2) := by omega
        simpa using this
      obtain ⟨au, eu, ha⟩ := hu.slice
      have hn3 : (L.getD i noPt).subs.length ≤ 3 := by
        rcases hT.2.1 with ⟨_, h1⟩ | ⟨_, h1⟩ | ⟨_, h1⟩ | ⟨m, _, _, h1⟩
        · rw [h1]; simp
        all_goals omega
      have hsub := forest_mem _ hT.2.2
      have hend : ∀ wr, RF (SX bs ix) w wr → (∀ j, j < (L.getD i noPt).subs.length → CondS bs L (N1 ix) wr ((L.getD i noPt).subs.getD j 0) (bl j)) → CondS bs L (N1 ix) wr i b := by
        intro wr hf hall
        have hu' : UnderAt wr u (L.getD i noPt).subs.length bl := by
          rcases hu with hu | ⟨h0, g, h1, h2⟩
          · exact .inl hu
          · exact .inr ⟨h0, g, h1, by rw [hf.other h2 (by decide)]; exact h2⟩
        have hbw : wr.heap[b]? = w.heap[b]? := by
          rcases hf.block b (lt_of_get hb) with e | ⟨t, u', m, m', e1, e2, e3⟩
          · exact e
          · rw [hb] at e1
            have := (cd_inj (Option.some.inj e1)).1
            exact absurd (this.trans e3.2.1) hk2
        refine .mk i b u n bl hi hlo ?_ (hbw.trans hb) hu' hall
        unfold N1; rw [if_neg hk2]
        rcases hn with hn | hn
        · exact hn
        · exact absurd hn.1 hk2
      subst eu
      have HEND : Hid _ := hend
      have HS : Hid _ := hs
      have HT : Hid _ := hsub
      have HA : Hid _ := ha
      have HSt : Hid _ := hS
      clear hs hb hu hT hsub ha hn hr hend hk2 ho hS
      generalize kindOf (L.getD i noPt).tok = kd at *
      generalize hjs : (L.getD i noPt).subs = js at *
      clear hjs
      have HF : Hid (∀ j, resF (fun t => decide (idx G (ownOf t) < 0)) f L j = resF (fun t => decide (idx G (ownOf t) < 0)) f L j) := fun _ => rfl
      generalize hFF : resF (fun t => decide (idx G (ownOf t) < 0)) f L = FF at *
      have ho : Hid (firstOf FF js = firstOf FF (js.drop 0)) := rfl
      generalize hoo : firstOf FF js = o at *
      clear hoo
      go_enter Tryz.func110, Tryz.ntmps110
      go_wp2_with fail
      go_loopw [41] (fun kv wr => ∃ k, k ≤ js.length ∧ kv = .int .i64 k ∧ Hid (o = firstOf FF (js.drop k)) ∧ Hid (∀ j, j < k → CondS bs L (N1 ix) wr (js.getD j 0) (bl j)) ∧ RF (SX bs ix) w wr) (fun kv _ => js.length - (intOf kv).toNat)
      case atStart => exact ⟨0, Nat.zero_le _, rfl, ho, fun j hj => by omega, RF.refl _ _⟩
      case round =>
        obtain ⟨k, hk, rfl, HO, HD, hf⟩ := hrel
        by_cases hlt : k < js.length
        · obtain ⟨g, rfl, hg⟩ := HA.out k hlt
          have hg' : wr.heap[g]? = _ := (hf.other hg (by decide)).trans hg
          have hcell := under_cell hg' k hlt
          have hst : Hid _ := firstOf_step FF js k hlt
          obtain ⟨lo', hT'⟩ := HT.out (js.getD k 0) (by rw [List.getD_eq_getElem?_getD, List.getElem?_eq_getElem hlt]; exact List.getElem_mem hlt)
          have HI := ih (cap := cap) hT' ((HS.out k hlt).rf hf N0_ok) (StrAt.rf HSt.out hf)
          clear hg hg' hT' hFF
          go_wp2_with fail
          refine HI.mono ?_
          rintro e w1 (⟨p, hp, rfl, hf1⟩ | ⟨hp, p, rfl, hf1, hC1⟩)
          · have HP : Hid _ := hp
            clear HI hp
            go_wp2_with fail
            refine bodyPost_ret (v := .tuple #[.int .i64 p, .bool false]) (by simp [results, Tryz.results110, go_sem]) rfl ?_
            refine .inl ⟨p, ?_, rfl, (hf.mono fun _ _ _ _ h => h.1).trans hf1⟩
            rw [HO.out, hst.out, HP.out]
          · have HP : Hid _ := hp
            have HC1 : Hid _ := hC1
            clear HI hp hC1
            go_wp2_with fail
            go_roundw
            case rel =>
              refine ⟨k + 1, by omega, by simp, ?_, ?_, hf.trans hf1⟩
              · show _ = _
                rw [HO.out, hst.out, HP.out]
              · intro j hj
                by_cases e : j = k
                · subst e; exact HC1.out
                · exact (HD.out j (by omega)).rf hf1 N1_ok
            case measure => simp [intOf]; omega
        · have hke : k = js.length := by omega
          subst hke
          have hno : Hid (o = none) := by
            have := HO.out
            rw [List.drop_of_length_le (Nat.le_refl _)] at this
            exact this
          have HA : Hid (ResAns bs L ix w i b o (.returned (.tuple #[.int .i64 0, .bool true])) wr) := .inr ⟨hno.out, 0, rfl, hf, HEND.out wr hf HD.out⟩
          clear HD HEND
          go_wp2_with fail
          refine bodyPost_ret (v := .tuple #[.int .i64 0, .bool true]) (by simp [results, Tryz.results110, go_sem]) rfl ?_
          exact HA.out
end Go.Proofs.YtfkdailfcmnjlaaGreatDoor

namespace Go.Proofs.YtfkdailfcmnjlaaGreatDoor
open Go Go.RowKit
set_option maxRecDepth 100000
attribute [local go_sem ↓] Go.wp_at_zero Go.wp_at_succ
variable {bs : Nat}

theorem info_str : (Tryz.prog.info? 9).map (fun i => (i.zero, i.size, i.bytes)) = some (some (.string ⟨#[]⟩), 1, 16) := by kernel_rfl

theorem RF.grown {SS : Nat → Nat → List UInt8 → Int → Prop} {w wr w' : World} {row : Option Nat} (h : RF SS w wr) (hg : wr.grownBy w' row) (hr : ∀ k, row = some k → w.heap.size ≤ k) : RF SS w w' :=
  ⟨hg.os.trans h.os, hg.tape.trans h.tape, hg.output.trans h.output, Nat.le_trans h.size hg.size, fun k hk => by
    have e := hg.block k (Nat.lt_of_lt_of_le hk h.size) (fun e => by have := hr k e.symm; omega)
    rcases h.block k hk with f | ⟨t, u, n, n', f1, f2, f3⟩
    · exact .inl (e.trans f)
    · exact .inr ⟨t, u, n, n', f1, e.trans f2, f3⟩⟩
theorem RF.alloc {SS : Nat → Nat → List UInt8 → Int → Prop} {w wr : World} (h : RF SS w wr) (o : Obj) : RF SS w (wr.alloc o) :=
  h.trans (RF.of_below ((Below.refl _ _).alloc (Nat.le_refl _) o))
/-- A row of strings. -/
theorem str_row {w : World} {base : Nat} {v : Value} {l : List (List UInt8)} (h : w.ownsRow base 9 1 v l.length (l.map S)) : ∃ a cap, v = .slice a l.length cap ∧ StrAt w a l := by
  obtain ⟨hl, h⟩ := h
  rcases h with ⟨rfl, h0⟩ | ⟨g, cap, cur, rfl, hb, hg, h1, h2, h3, h4⟩
  · exact ⟨none, 0, by rw [h0], fun k hk => by omega⟩
  · refine ⟨_, cap, rfl, fun k hk => ⟨g, rfl, ⟨cur, hg⟩, ?_⟩⟩
    rw [cell_of_row w g k _ _ _ hg]
    have e1 : cur[k]? = (cur.toList.take (l.length * 1))[k]? := by
      rw [List.getElem?_take_of_lt (by omega)]; simp
    rw [e1, h4]
    simp [hk, List.getD_eq_getElem?_getD]
theorem str_block {w : World} {base : Nat} {v : Value} {n : Nat} {xs : List Value} (h : w.ownsRow base 9 1 v n xs) {k : Nat} (hk : v.ownBlock = some k) : base ≤ k ∧ ∃ cs, w.heap[k]? = some (.cells cs 9 (0, 0)) := by
  rcases h.2 with ⟨rfl, _⟩ | ⟨g, cap, cur, rfl, hb, hg, _⟩
  · simp [Value.ownBlock] at hk
  · simp [Value.ownBlock] at hk; subst hk; exact ⟨hb, cur, hg⟩
theorem CondS.grownStr {L : List Pt} {N : Tok → Int → Prop} {w w' : World} {i b : Nat} (h : CondS bs L N w i b) {base : Nat} {v : Value} {n : Nat} {xs : List Value} (hr : w.ownsRow base 9 1 v n xs) (hg : w.grownBy w' v.ownBlock) : CondS bs L N w' i b :=
  h.keep fun k cs ty hk ht => hg.block k (lt_of_get hk) fun e => by
    obtain ⟨_, cs', hc⟩ := str_block hr e.symm
    rw [hk] at hc
    simp only [Option.some.injEq, Obj.cells.injEq] at hc
    rw [hc.2.1] at ht
    exact absurd ht (by decide)
theorem ownsRow_rf {SS : Nat → Nat → List UInt8 → Int → Prop} {w w' : World} {base : Nat} {e : TypeId} {size : Nat} {v : Value} {n : Nat} {xs : List Value} (h : w.ownsRow base e size v n xs) (he : e ≠ 229) (hf : RF SS w w') : w'.ownsRow base e size v n xs := by
  obtain ⟨h1, h2⟩ := h
  refine ⟨h1, ?_⟩
  rcases h2 with h2 | ⟨g, cap, cur, a, b, c, d⟩
  · exact .inl h2
  · exact .inr ⟨g, cap, cur, a, b, by rw [hf.other c he]; exact c, d⟩
theorem ItemsAt.rf {L : List Pt} {N : Tok → Int → Prop} {SS : Nat → Nat → List UInt8 → Int → Prop} {w w' : World} (hf : RF SS w w') (hN : ∀ q t n, SS q (kindOf t) (ownOf t) n → N t n) {xs : List Itm} {ys : List (Tok × Tok × Nat × Int)} (h : ItemsAt (CondS bs L N w) xs ys) : ItemsAt (CondS bs L N w') xs ys :=
  h.mono fun _ _ h => h.rf hf hN
theorem take_snoc {α : Type} {l : List α} {k : Nat} (h : k < l.length) (d : α) : l.take (k + 1) = l.take k ++ [l.getD k d] := by
  rw [List.take_succ_eq_append_getElem h, List.getD_eq_getElem?_getD, List.getElem?_eq_getElem h]; rfl

/-- What naming a policy answers. -/
def NamAns (bs : Nat) (L : List Pt) (ix : List UInt8 → Int) (xs : List Itm) (ys : List (Tok × Tok × Nat × Int)) (w : World) (e : Ending) (w' : World) : Prop :=
  (∃ p, namesAt xs L xs 0 0 = some p ∧ e = .returned (.tuple #[.int .i64 p, .bool false]) ∧ RF (SB bs) w w') ∨
  (namesAt xs L xs 0 0 = none ∧ e = .returned (.tuple #[.int .i64 0, .bool true]) ∧ RF (SX bs ix) w w' ∧ ItemsAt (CondS bs L (N1 ix) w') xs ys)

set_option maxHeartbeats 8000000 in
theorem resolve_any {L : List Pt} (hL : PartsOK L) {xs : List Itm} {ys : List (Tok × Tok × Nat × Int)} {base : Nat} {v : Value} {w : World} (hrow : w.ownsRow base 163 10 v ys.length (iCells ys)) (hy : ys.length ≤ 1001)
    (hit : ItemsAt (CondS bs L (N0 (idx (giv xs))) w) xs ys) (htr : TreesAt L xs 0) :
    Calls Tryz.prog 58 #[v] w (NamAns bs L (idx (giv xs)) xs ys w) := by
  obtain ⟨a, cap, rfl, hcell⟩ := row_cells hrow
  obtain ⟨i0, hi, hz0, hz1, hz2⟩ := info_parts info_str
  have hlen : Hid _ := hit.len
  have HC : Hid _ := hcell
  have HT : Hid _ := hit
  have HTR : Hid _ := htr
  have HL : Hid _ := hL
  clear hrow hcell hit htr hL
  go_enter Tryz.func58, Tryz.ntmps58
  go_wp2_with fail
  go_loopw [4, 11] (fun gv kv wr => ∃ k fr, k ≤ ys.length ∧ kv = .int .i64 k ∧ Hid (namesAt xs L xs 0 0 = namesAt xs L (xs.drop k) fr k) ∧ Hid (TreesAt L (xs.drop k) fr) ∧ Hid (ItemsAt (CondS bs L (N0 (idx (giv xs))) w) (xs.drop k) (ys.drop k)) ∧ Hid (ItemsAt (CondS bs L (N1 (idx (giv xs))) wr) (xs.take k) (ys.take k)) ∧ wr.ownsRow w.heap.size 9 1 gv (giv (xs.take k)).length ((giv (xs.take k)).map S) ∧ RF (SX bs (idx (giv xs))) w wr) (fun _ kv _ => ys.length - (intOf kv).toNat)
  case atStart => exact ⟨0, 0, Nat.zero_le _, rfl, rfl, HTR.out, HT.out, trivial, World.ownsRow_nil _ _ _ _, RF.refl _ _⟩
  case round =>
    obtain ⟨k, fr, hk, rfl, HM, HTR2, HIT2, HDN, hown, hf⟩ := hrel
    by_cases hlt : k < ys.length
    · have hltx : k < xs.length := by rw [← hlen.out]; exact hlt
      have hgl := giv_len (xs.take k)
      have hgl2 : (giv (xs.take k)).length ≤ k := Nat.le_trans hgl (by simp; omega)
      have ht2 := HTR2.out
      have hi2 := HIT2.out
      rw [drop_head hltx noItm] at ht2 hi2
      rw [drop_head hltx noItm] at HM
      rw [drop_head hlt (zTok, zTok, 0, 0)] at hi2
      obtain ⟨g, rfl, ⟨gcs, hgc⟩, hcells⟩ := HC.out k hlt
      have HTX : Hid _ := take_snoc hltx noItm
      have HTY : Hid _ := take_snoc hlt (zTok, zTok, 0, 0)
      generalize xs.getD k noItm = x at *
      generalize ys.getD k (zTok, zTok, 0, 0) = y at *
      obtain ⟨⟨hCd, hO⟩, hi2⟩ := hi2
      obtain ⟨hTr, hpt, ht2⟩ := ht2
      obtain ⟨t0, u0, b, wh⟩ := y
      simp only [] at hCd hO
      have hgw : wr.heap[g]? = w.heap[g]? := hf.other hgc (by decide)
      have hct : ∀ j, j < 10 → wr.cell? ⟨g, k * 10 + j, none⟩ = (icell (t0, u0, b, wh))[j]? := fun j hj => by
        rw [World.cell?_of_block (w := w) (a := ⟨g, k * 10 + j, none⟩) hgw]; exact hcells j hj
      have c0 := hct 0 (by omega)
      have c1 := hct 1 (by omega)
      have c2 := hct 2 (by omega)
      have c3 := hct 3 (by omega)
      have c4 := hct 4 (by omega)
      have c5 := hct 5 (by omega)
      have c6 := hct 6 (by omega)
      have c7 := hct 7 (by omega)
      have c8 := hct 8 (by omega)
      have c9 := hct 9 (by omega)
      simp [icell] at c0 c1 c2 c3 c4 c5 c6 c7 c8 c9
      have hTF := hTr.fit
      have HST : Hid _ := names_item (xs := xs) HL.out (r := xs.drop (k + 1)) (i := k) hTr hpt
      obtain ⟨ag, capg, rfl, hSt⟩ := str_row hown
      have hf0 := hf.alloc (.cells #[.int .i64 (kindOf t0), .int .i64 t0.pl, .int .i64 (nmOf t0), S (ownOf t0), .int .i64 (kindOf u0), .int .i64 u0.pl, .int .i64 (nmOf u0), S (ownOf u0), .int .i64 wh, .pointer (some ⟨b, 0, none⟩)] 163 (0, 0))
      have hb0 : RF (SX bs (idx (giv xs))) wr (wr.alloc (.cells #[.int .i64 (kindOf t0), .int .i64 t0.pl, .int .i64 (nmOf t0), S (ownOf t0), .int .i64 (kindOf u0), .int .i64 u0.pl, .int .i64 (nmOf u0), S (ownOf u0), .int .i64 wh, .pointer (some ⟨b, 0, none⟩)] 163 (0, 0))) := (RF.refl _ _).alloc _
      have hG2 : (giv (xs.take k)).length ≤ 2000 := by omega
      have W2 := cresolve_any (L := L) (ix := idx (giv xs)) (cap := capg) hG2 (fun s h => giv_keep k h) (x.top + 1) hTF (hCd.rf hf0 N0_ok) (StrAt.rf hSt hb0)
      rw [resF_congr (bad' := badOf xs k) (fun q hq ho => by
        have e1 : ownOf (L.getD q noPt).tok = (L.getD q noPt).tok.text := by unfold ownOf; rw [if_pos ho]
        have e2 := giv_ix _ (HL.out.own q hq ho) xs k
        unfold badOf
        rw [e1, Bool.eq_iff_iff]; simpa using e2) (x.top + 1) hTF] at W2
      have W1 := strContains_any (giv (xs.take k)) (ownOf u0) ag capg _ hG2 (StrAt.rf hSt hb0)
      have hown0 := ownsRow_rf hown (by decide) hb0
      have hit0 : Hid (ItemsAt (CondS bs L (N1 (idx (giv xs))) (wr.alloc (.cells #[.int .i64 (kindOf t0), .int .i64 t0.pl, .int .i64 (nmOf t0), S (ownOf t0), .int .i64 (kindOf u0), .int .i64 u0.pl, .int .i64 (nmOf u0), S (ownOf u0), .int .i64 wh, .pointer (some ⟨b, 0, none⟩)] 163 (0, 0)))) (xs.take k) (ys.take k)) := HDN.out.rf hb0 N1_ok
      have hz0' : (wr.alloc (.cells #[.int .i64 (kindOf t0), .int .i64 t0.pl, .int .i64 (nmOf t0), S (ownOf t0), .int .i64 (kindOf u0), .int .i64 u0.pl, .int .i64 (nmOf u0), S (ownOf u0), .int .i64 wh, .pointer (some ⟨b, 0, none⟩)] 163 (0, 0))).heap[wr.heap.size]? = _ := heap_alloc_new wr _
      have HTR3 : Hid _ := ht2
      have HIT3 : Hid _ := hi2
      have HO : Hid (ItOf x t0 u0) := hO
      have hFw : Hid _ := hf0
      have hOwn : Hid _ := hown0
      unfold ItOf at hO
      clear hTr hTF hCd ht2 hi2 hct hcells hSt hf hown HDN hf0 hb0 hgw hgc HTR2 HIT2 hown0 HTR HT
      generalize hkd0 : kindOf t0 = kd at *
      generalize hu1 : u0.pl = m5 at *
      generalize hu2 : ownOf u0 = s7 at *
      generalize t0.pl = p0 at *
      generalize nmOf t0 = m2 at *
      generalize ownOf t0 = s3 at *
      generalize kindOf u0 = m4 at *
      generalize nmOf u0 = m6 at *
      rcases hO with hO | hO
      · have hkd : kd = 11 := hO.2.1
        subst hkd
        have hne := hO.1
        have e5 : m5 = x.named := hO.2.2.2.2.1
        have e7 : s7 = x.name := hO.2.2.2.2.2.1
        have HNE : Hid _ := hne
        have HE5 : Hid _ := e5
        have HE7 : Hid _ := e7
        clear hO hne e5 e7 hkd0 hu1 hu2
        by_cases hdup : 0 ≤ idx (giv (xs.take k)) s7
        · rw [decide_eq_true hdup] at W1
          have HA : Hid (NamAns bs L (idx (giv xs)) xs ys w (.returned (.tuple #[.int .i64 m5, .bool false])) (wr.alloc (.cells #[.int .i64 11, .int .i64 p0, .int .i64 m2, S s3, .int .i64 m4, .int .i64 m5, .int .i64 m6, S s7, .int .i64 wh, .pointer (some ⟨b, 0, none⟩)] 163 (0, 0)))) := by
            refine .inl ⟨m5, ?_, rfl, hFw.out.mono fun _ _ _ _ h => h.1⟩
            rw [HM.out, HST.out, if_pos ⟨HNE.out, by rw [← HE7.out]; exact hdup⟩, HE5.out]
          obtain ⟨⟨z0, z1, z2, z3, z4, z5, z6, z7, z8, z9⟩, zf⟩ := it_cells hz0'
          clear W2 hz0' hdup
          go_wp2_with fail
          refine W1.mono ?_
          rintro e w' ⟨rfl, rfl⟩
          clear W1
          go_wp2_with fail
          refine bodyPost_ret (v := .tuple #[.int .i64 m5, .bool false]) (by simp [results, Tryz.results58, go_sem]) rfl ?_
          exact HA.out
        · rw [decide_eq_false hdup] at W1
          have hst2 : Hid (namesAt xs L xs 0 0 = (resF (badOf xs k) (x.top + 1) L x.top).or (namesAt xs L (xs.drop (k + 1)) x.parts (k + 1))) := by
            show _ = _
            rw [HM.out, HST.out, if_neg (fun e => hdup (by rw [HE7.out]; exact e.2))]
          obtain ⟨⟨z0, z1, z2, z3, z4, z5, z6, z7, z8, z9⟩, zf⟩ := it_cells hz0'
          have HZ : Hid _ := hz0'
          clear hz0' hdup
          generalize resF (badOf xs k) (x.top + 1) L x.top = ro at *
          go_wp2_with fail
          refine W1.mono ?_
          rintro e w' ⟨rfl, rfl⟩
          clear W1
          go_wp2_with fail
          refine W2.mono ?_
          rintro e w1 (⟨q, hq, rfl, hf1⟩ | ⟨hq, q, rfl, hf1, hC1⟩)
          · have HQ : Hid _ := hq
            clear W2 hq z0 z1 z2 z3 z4 z5 z6 z7 z8 z9 zf
            go_wp2_with fail
            refine bodyPost_ret (v := .tuple #[.int .i64 q, .bool false]) (by simp [results, Tryz.results58, go_sem]) rfl ?_
            refine .inl ⟨q, ?_, rfl, (hFw.out.mono fun _ _ _ _ h => h.1).trans hf1⟩
            rw [hst2.out, HQ.out]; rfl
          · have HQ : Hid _ := hq
            have HC1 : Hid _ := hC1
            have hz1' : w1.heap[wr.heap.size]? = _ := (hf1.other HZ.out (by decide)).trans HZ.out
            have hown1 := ownsRow_rf hOwn.out (by decide) hf1
            have hF1 : Hid _ := hFw.out.trans hf1
            have hD1 : Hid _ := hit0.out.rf hf1 N1_ok
            have hs1 := hf1.size
            have hs0 := hFw.out.size
            clear W2 hq hC1 z0 z1 z2 z3 z4 z5 z6 z7 z8 z9 zf HZ hOwn hFw hit0 hf1
            obtain ⟨⟨z0, z1, z2, z3, z4, z5, z6, z7, z8, z9⟩, zf⟩ := it_cells hz1'
            clear hz1'
            simp only [World.size_alloc] at hs0 hs1
            generalize wr.heap.size = bi at *
            generalize hGl : giv (xs.take k) = G at *
            go_wp2_with (
              at_builtin
              go_must (refine wpList_append_lies _ (by rfl) _ _ 131 (by rfl) w.heap.size 9 i0 (.string ⟨#[]⟩) 1 16 Tryz.underlying131 hi hz0 hz1 hz2 (by rfl) (by decide) _ _ _ (by rfl) (hown1.alloc _) ⟨w1.heap.size, 0, none⟩ 1 1 [S s7] (by rfl) (by rfl) (World.news_of_block (heap_alloc_new w1 _)) (fun x hx => by simp at hx; rcases hx with rfl; rfl) (by decide) (by unfold maxLen; omega) (by omega) (by simp; omega) _ rfl ?_)
              intro g3 cap3 w3 hown3 hgrow3 hat hlt3)
            have hrowb : ∀ q, (Value.slice ag G.length capg).ownBlock = some q → w.heap.size ≤ q := fun q hq => (str_block hown1 hq).1
            refine ⟨⟨k + 1, x.parts, by omega, by simp, ?_, HTR3.out, HIT3.out, ?_, ?_, (hF1.out.alloc _).grown hgrow3 hrowb⟩, by simp [intOf]; omega⟩
            · show _ = _
              rw [hst2.out, HQ.out]; rfl
            · show ItemsAt _ _ _
              rw [HTX.out, HTY.out]
              exact ItemsAt.snoc ((HC1.out.grow ((Below.refl _ _).alloc (Nat.le_refl _) _)).grownStr (hown1.alloc _) hgrow3) HO.out (hD1.out.mono fun i b h => (h.grow ((Below.refl _ _).alloc (Nat.le_refl _) _)).grownStr (hown1.alloc _) hgrow3)
            · have e : giv (xs.take (k + 1)) = G ++ [s7] := by rw [HTX.out, giv_snoc, if_neg HNE.out, hGl, HE7.out]
              rw [e]; simpa using hown3
      · have hkd : ((kd : Int) == (11 : Int)) = false := by
          have h1 := hO.2.1
          have : ¬ ((kd : Int) = 11) := by split at h1 <;> omega
          simpa using this
        have HNE : Hid _ := hO.1
        clear hO hkd0 hu1 hu2 W1
        have hst2 : Hid (namesAt xs L xs 0 0 = (resF (badOf xs k) (x.top + 1) L x.top).or (namesAt xs L (xs.drop (k + 1)) x.parts (k + 1))) := by
          show _ = _
          rw [HM.out, HST.out, if_neg (fun e => e.1 HNE.out)]
        obtain ⟨⟨z0, z1, z2, z3, z4, z5, z6, z7, z8, z9⟩, zf⟩ := it_cells hz0'
        have HZ : Hid _ := hz0'
        clear hz0'
        generalize resF (badOf xs k) (x.top + 1) L x.top = ro at *
        go_wp2_with fail
        refine W2.mono ?_
        rintro e w1 (⟨q, hq, rfl, hf1⟩ | ⟨hq, q, rfl, hf1, hC1⟩)
        · have HQ : Hid _ := hq
          clear W2 hq z0 z1 z2 z3 z4 z5 z6 z7 z8 z9 zf
          go_wp2_with fail
          refine bodyPost_ret (v := .tuple #[.int .i64 q, .bool false]) (by simp [results, Tryz.results58, go_sem]) rfl ?_
          refine .inl ⟨q, ?_, rfl, (hFw.out.mono fun _ _ _ _ h => h.1).trans hf1⟩
          rw [hst2.out, HQ.out]; rfl
        · have HQ : Hid _ := hq
          have HC1 : Hid _ := hC1
          have hz1' : w1.heap[wr.heap.size]? = _ := (hf1.other HZ.out (by decide)).trans HZ.out
          have hown1 := ownsRow_rf hOwn.out (by decide) hf1
          have hF1 : Hid _ := hFw.out.trans hf1
          have hD1 : Hid _ := hit0.out.rf hf1 N1_ok
          clear W2 hq hC1 z0 z1 z2 z3 z4 z5 z6 z7 z8 z9 zf HZ hOwn hFw hit0 hf1
          obtain ⟨⟨z0, z1, z2, z3, z4, z5, z6, z7, z8, z9⟩, zf⟩ := it_cells hz1'
          clear hz1'
          generalize wr.heap.size = bi at *
          go_wp2_with fail
          refine ⟨⟨k + 1, x.parts, by omega, by simp, ?_, HTR3.out, HIT3.out, ?_, ?_, hF1.out⟩, by simp [intOf]; omega⟩
          · show _ = _
            rw [hst2.out, HQ.out]; rfl
          · show ItemsAt _ _ _
            rw [HTX.out, HTY.out]
            exact ItemsAt.snoc HC1.out HO.out hD1.out
          · have e : giv (xs.take (k + 1)) = giv (xs.take k) := by rw [HTX.out, giv_snoc, if_pos HNE.out]
            rw [e]; exact hown1
    · have hke : k = ys.length := by omega
      subst hke
      have hm : namesAt xs L xs 0 0 = none := by
        have := HM.out
        rw [List.drop_of_length_le (by rw [hlen.out]; exact Nat.le_refl _)] at this
        exact this
      have hd := HDN.out
      rw [List.take_length, List.take_of_length_le (by rw [hlen.out]; exact Nat.le_refl _)] at hd
      have HA : Hid (NamAns bs L (idx (giv xs)) xs ys w (.returned (.tuple #[.int .i64 0, .bool true])) wr) := .inr ⟨hm, rfl, hf, hd⟩
      clear hm hd HDN
      go_wp2_with fail
      refine bodyPost_ret (v := .tuple #[.int .i64 0, .bool true]) (by simp [results, Tryz.results58, go_sem]) rfl ?_
      exact HA.out
end Go.Proofs.YtfkdailfcmnjlaaGreatDoor

namespace Go.Proofs.YtfkdailfcmnjlaaGreatDoor
open Go Go.RowKit
set_option maxRecDepth 100000
attribute [local go_sem ↓] Go.wp_at_zero Go.wp_at_succ
variable {bs : Nat}

/-- A list of numbers lies there. -/
def TyAt (w : World) (a : Option Addr) (l : List Nat) : Prop := ∀ j, j < l.length → ∃ g, a = some ⟨g, 0, none⟩ ∧ w.cell? ⟨g, j, none⟩ = some (.int .i64 (l.getD j 0))
theorem TyAt.grow {w w' : World} {a : Option Addr} {l : List Nat} (h : TyAt w a l) (hb : Below w.heap.size w w') : TyAt w' a l := fun j hj => by
  obtain ⟨g, h1, h2⟩ := h j hj
  exact ⟨g, h1, by rw [hb.cell (p := ⟨g, j, none⟩) (World.block_lt_of_cell? w _ h2)]; exact h2⟩
theorem tcode_le (c : UInt8) : tcode c ≤ 3 := by unfold tcode; split; omega; split; omega; split <;> omega

theorem shape_kind {p : Pt} (h : Shape p) (hn : p.subs ≠ []) : (kindOf p.tok = 6 ∨ kindOf p.tok = 7 ∨ kindOf p.tok = 9 ∨ kindOf p.tok = 10 ∨ kindOf p.tok = 17 ∨ kindOf p.tok = 18 ∨ kindOf p.tok = 19 ∨ kindOf p.tok = 8 ∨ kindOf p.tok = 14) ∧ (kindOf p.tok = 14 → p.subs.length = 3) := by
  rcases h with ⟨_, h⟩ | ⟨h, hl⟩ | ⟨h, hl⟩ | ⟨n, _, h, hl⟩
  · exact absurd h hn
  · obtain ⟨e, hk⟩ := isW_text h
    rw [kind_word hk, e]; exact ⟨by decide, fun e => absurd e (by decide)⟩
  · obtain ⟨e, hk⟩ := isW_text h
    rw [kind_word hk, e]; exact ⟨by decide, fun _ => hl⟩
  · obtain ⟨e, hk⟩ := joins_text h
    rw [kind_word hk]
    have key : ∀ x ∈ ([[43], [45], [60], [60, 61], [61], [111, 114], [97, 110, 100]] : List (List UInt8)), (kn x = 6 ∨ kn x = 7 ∨ kn x = 9 ∨ kn x = 10 ∨ kn x = 17 ∨ kn x = 18 ∨ kn x = 19 ∨ kn x = 8 ∨ kn x = 14) ∧ kn x ≠ 14 := by decide
    exact ⟨(key _ e).1, fun h => absurd h (key _ e).2⟩

set_option maxHeartbeats 4000000 in
theorem typeOf_own {L : List Pt} {xs : List Itm} {its : List UInt8} {lts : List Nat} {f lo i b cap : Nat} {a : Option Addr} {w : World} (hT : TreeF (f + 1) L lo i) (hC : CondS bs L (N1 (idx (giv xs))) w i b) (hS : TyAt w a lts) (hll : lts.length ≤ 1001) (ho : (L.getD i noPt).tok.k = 111)
    (h0 : 0 ≤ idx (giv xs) (L.getD i noPt).tok.text) (h1 : (idx (giv xs) (L.getD i noPt).tok.text).toNat < lts.length) (h2 : lts.getD (idx (giv xs) (L.getD i noPt).tok.text).toNat 0 = tcode (tyOf xs its L (f + 1) i)) :
    Calls Tryz.prog 111 #[.pointer (some ⟨b, 0, none⟩), .slice a lts.length cap] w fun e w' => e = .returned (.int .i64 (tcode (tyOf xs its L (f + 1) i))) ∧ Below w.heap.size w w' := by
  obtain ⟨u, n, bl, hi, hlo, hn, hb, hu, hs⟩ := hC.inv
  obtain ⟨⟨c0, c1, c2, c3, c4, c5⟩, cf⟩ := cd_cells hb
  have hk2 := kind_two.2 ho
  rw [hk2] at c0
  have en : n = idx (giv xs) (L.getD i noPt).tok.text := by
    unfold N1 at hn; rw [if_pos hk2] at hn
    have e1 : ownOf (L.getD i noPt).tok = (L.getD i noPt).tok.text := by unfold ownOf; rw [if_pos ho]
    rw [e1] at hn; exact hn
  rw [← en] at h0 h1 h2
  obtain ⟨g, rfl, hcell⟩ := hS _ h1
  rw [h2] at hcell
  obtain ⟨m, rfl⟩ : ∃ m : Nat, n = m := ⟨n.toNat, by omega⟩
  have hm : (m : Int).toNat = m := by omega
  rw [hm] at h1 hcell
  clear hS hT hb hu hs hn en h2 h0 hk2 ho hm
  generalize tcode (tyOf xs its L (f + 1) i) = r at *
  go_enter Tryz.func111, Tryz.ntmps111
  go_wp2_with fail
  go_ret
  exact ⟨rfl, Below.refl _ _⟩
end Go.Proofs.YtfkdailfcmnjlaaGreatDoor

namespace Go.Proofs.YtfkdailfcmnjlaaGreatDoor
open Go Go.RowKit
set_option maxRecDepth 100000
attribute [local go_sem ↓] Go.wp_at_zero Go.wp_at_succ
variable {bs : Nat}

set_option maxHeartbeats 4000000 in
theorem typeOf_leaf {L : List Pt} {N : Tok → Int → Prop} {i b n cap : Nat} {a : Option Addr} {w : World} (hC : CondS bs L N w i b) (ho : (L.getD i noPt).tok.k ≠ 111) (hs : (L.getD i noPt).subs = []) :
    Calls Tryz.prog 111 #[.pointer (some ⟨b, 0, none⟩), .slice a n cap] w fun e w' => e = .returned (.int .i64 (wordK (kindOf (L.getD i noPt).tok))) ∧ Below w.heap.size w w' := by
  obtain ⟨u, n, bl, hi, hlo, hn, hb, hu, hs'⟩ := hC.inv
  obtain ⟨⟨c0, c1, c2, c3, c4, c5⟩, cf⟩ := cd_cells hb
  have hk3 : ((kindOf (L.getD i noPt).tok : Int) == (2 : Int)) = false := by
    have : ¬ ((kindOf (L.getD i noPt).tok : Int) = 2) := fun e => ho (kind_two.1 (by omega))
    simpa using this
  have hu0 : u = .slice none 0 0 := by
    rw [hs] at hu; rcases hu with hu | hu
    · exact hu.2
    · simp at hu
  subst hu0
  have HI := typeOfWord_any (kindOf (L.getD i noPt).tok) w (kind_le _)
  clear hb hu hs' hn hs ho
  generalize wordK (kindOf (L.getD i noPt).tok) = r at *
  generalize kindOf (L.getD i noPt).tok = kd at *
  go_enter Tryz.func111, Tryz.ntmps111
  go_wp2_with fail
  refine HI.mono ?_
  rintro e w' ⟨rfl, rfl⟩
  clear HI
  go_wp2_with fail
  go_ret
  exact ⟨rfl, Below.refl _ _⟩

theorem info_type : (Tryz.prog.info? 220).map (fun i => (i.zero, i.size, i.bytes)) = some (some (.int .i64 0), 1, 8) := by kernel_rfl
set_option maxHeartbeats 4000000 in
theorem typeOf_over {L : List Pt} {N : Tok → Int → Prop} {i b m cap : Nat} {a : Option Addr} {w : World} (F : Nat → Nat) (hF : ∀ j, F j ≤ 3) (hC : CondS bs L N w i b) (ho : (L.getD i noPt).tok.k ≠ 111) (hsh : Shape (L.getD i noPt)) (hn0 : (L.getD i noPt).subs ≠ [])
    (hI : ∀ j ∈ (L.getD i noPt).subs, ∀ (bj : Nat) (w1 : World), CondS bs L N w1 j bj → Below w.heap.size w w1 → Calls Tryz.prog 111 #[.pointer (some ⟨bj, 0, none⟩), .slice a m cap] w1 fun e w' => e = .returned (.int .i64 (F j)) ∧ Below w1.heap.size w1 w') :
    Calls Tryz.prog 111 #[.pointer (some ⟨b, 0, none⟩), .slice a m cap] w fun e w' => e = .returned (.int .i64 (if ((L.getD i noPt).subs.map F).contains 0 then 0 else overK (kindOf (L.getD i noPt).tok) ((L.getD i noPt).subs.map F) : Nat)) ∧ Below w.heap.size w w' := by
  obtain ⟨u, n, bl, hi, hlo, hn, hb, hu, hs⟩ := hC.inv
  obtain ⟨⟨c0, c1, c2, c3, c4, c5⟩, cf⟩ := cd_cells hb
  have hk3 : ((kindOf (L.getD i noPt).tok : Int) == (2 : Int)) = false := by
    have : ¬ ((kindOf (L.getD i noPt).tok : Int) = 2) := fun e => ho (kind_two.1 (by omega))
    simpa using this
  obtain ⟨hkk, hk14⟩ := shape_kind hsh hn0
  have hn3 : (L.getD i noPt).subs.length ≤ 3 := by
    rcases hsh with ⟨_, h1⟩ | ⟨_, h1⟩ | ⟨_, h1⟩ | ⟨m, _, _, h1⟩
    · rw [h1]; simp
    all_goals omega
  have hn1 : 0 < (L.getD i noPt).subs.length := List.length_pos_iff.2 hn0
  have hn2 : ¬ (L.getD i noPt).subs.length = 0 := by omega
  obtain ⟨au, rfl, ha⟩ := hu.slice
  obtain ⟨g, rfl, hg⟩ := ha 0 hn1
  have HI : Hid _ := hI
  have HS : Hid _ := hs
  have HG : Hid _ := hg
  have HKK : Hid _ := hkk
  have HK14 : Hid _ := hk14
  clear hb hu hs hn ho hI ha hg hsh hn0 hkk hk14
  generalize kindOf (L.getD i noPt).tok = kd at *
  generalize (L.getD i noPt).subs = js at *
  have hmk := run_make_row' (P := Tryz.prog) 219 220 (.int .i64 0) 8 Tryz.underlying219 info_type rfl .i64 .i64 js.length (by omega) (by omega)
  generalize hr : (if (js.map F).contains 0 = true then 0 else overK kd (js.map F)) = r at *
  have HR : Hid _ := hr
  clear hr
  have n4 := World.new_ne w _ c4
  have hmade : ∀ j, j < js.length → (w.alloc (.cells (madeCells #[.int .i64 0] js.length) 220)).cell? ⟨w.heap.size, j, none⟩ = some (.int .i64 0) := fun j hj => by
    rw [cell_of_row _ _ j _ _ _ (heap_alloc_new w _)]
    rw [← Array.getElem?_toList, toList_madeCells_one]; simp [hj]
  have hblk : ∃ cs, (w.alloc (.cells (madeCells #[.int .i64 0] js.length) 220)).heap[w.heap.size]? = some (.cells cs 220 (0, 0)) := ⟨_, heap_alloc_new w _⟩
  have hbw0 : Below w.heap.size w (w.alloc (.cells (madeCells #[.int .i64 0] js.length) 220)) := (Below.refl _ _).alloc (Nat.le_refl _) _
  have c4' : (w.alloc (.cells (madeCells #[.int .i64 0] js.length) 220)).cell? ⟨b, 4, none⟩ = _ := (hbw0.cell (p := ⟨b, 4, none⟩) (World.block_lt_of_cell? w _ c4)).trans c4
  have HM : Hid _ := hmade
  have HB : Hid _ := hblk
  have HB0 : Hid _ := hbw0
  clear hmade hblk hbw0
  go_enter Tryz.func111, Tryz.ntmps111
  go_wp2_with fail
  generalize hgu : w.heap.size = gu at *
  generalize w.alloc (.cells (madeCells #[.int .i64 0] js.length) 220) = wz at *
  have HGU : Hid _ := hgu
  clear hgu
  go_loopw [44] (fun kv wr => ∃ k, k ≤ js.length ∧ kv = .int .i64 k ∧ Hid (∃ cs, wr.heap[gu]? = some (.cells cs 220 (0, 0))) ∧ Hid (∀ j, j < js.length → wr.cell? ⟨gu, j, none⟩ = some (.int .i64 (if j < k then F (js.getD j 0) else 0 : Nat))) ∧ Below gu w wr) (fun kv _ => js.length - (intOf kv).toNat)
  case atStart => exact ⟨0, Nat.zero_le _, rfl, HB.out, fun j hj => by simpa using HM.out j hj, HB0.out⟩
  case round =>
    obtain ⟨k, hk, rfl, HBK, HCL, hbw⟩ := hrel
    by_cases hlt : k < js.length
    · have hg' : wr.heap[g]? = _ := (hbw.block g (by rw [← HGU.out]; exact lt_of_get HG.out)).trans HG.out
      have hcell := under_cell hg' k hlt
      have hmem : js.getD k 0 ∈ js := by rw [List.getD_eq_getElem?_getD, List.getElem?_eq_getElem hlt]; exact List.getElem_mem hlt
      have hbw' : Below w.heap.size w wr := by rw [HGU.out]; exact hbw
      have W1 := HI.out (js.getD k 0) hmem (bl k) wr ((HS.out k hlt).grow hbw') hbw
      clear hg' hmem hbw'
      have hF3 := hF (js.getD k 0)
      generalize hfx : F (js.getD k 0) = fx at W1 hF3
      have HFX : Hid _ := hfx
      clear hfx
      go_wp2_with fail
      refine W1.mono ?_
      rintro e w1 ⟨rfl, hb1⟩
      clear W1
      obtain ⟨cs, hcs⟩ := HBK.out
      have hlg := lt_of_get hcs
      have hcs1 : w1.heap[gu]? = some (.cells cs 220 (0, 0)) := (hb1.block _ hlg).trans hcs
      have hcl1 : ∀ j, j < js.length → w1.cell? ⟨gu, j, none⟩ = some (.int .i64 (if j < k then F (js.getD j 0) else 0 : Nat)) := fun j hj => by
        rw [hb1.cell (p := ⟨gu, j, none⟩) hlg]; exact HCL.out j hj
      have hck := hcl1 k hlt
      have hfz : ∀ j, w1.frozen? ⟨gu, j, none⟩ = false := fun j => by simp [World.frozen?, hcs1]
      have HCL1 : Hid _ := hcl1
      have HCS1 : Hid _ := hcs1
      have hbw1 : Below gu w w1 := hbw.trans (hb1.mono (by rw [← HGU.out]; exact hbw.size))
      clear hcl1 hcs1 hcs
      go_wp2_with fail
      go_roundw
      case rel =>
        refine ⟨k + 1, by omega, by simp, ⟨_, heap_setCell_same _ _ _ _ _ _ HCS1.out⟩, fun j hj => ?_, ?_⟩
        · by_cases e : j = k
          · subst e
            rw [World.cell?_setCell_same' w1 ⟨gu, j, none⟩ _ (by rw [HCL1.out j hj]; rfl), if_pos (by omega), HFX.out]
          · have h1 := HCL1.out j hj
            rw [World.cell?_setCell_other (w := w1) (a := ⟨gu, k, none⟩) (b := ⟨gu, j, none⟩) (h := by intro h; injection h with _ h2; omega), h1]
            simp only [show (j < k + 1) = (j < k) from propext (by omega)]
        · exact hbw1.setCell (Nat.le_refl _) _
      case measure => simp [intOf]; omega
    · have hke : k = js.length := by omega
      subst hke
      have hcl : ∀ j, j < (js.map F).length → wr.cell? ⟨gu, j, none⟩ = some (.int .i64 ((js.map F).getD j 0)) ∧ (js.map F).getD j 0 ≤ 100 := fun j hj => by
        have hj' : j < js.length := by simpa using hj
        have h1 := HCL.out j hj'
        rw [if_pos hj'] at h1
        have e : (js.map F).getD j 0 = F (js.getD j 0) := by simp [List.getD_eq_getElem?_getD, hj']
        rw [e]; exact ⟨h1, by have := hF (js.getD j 0); omega⟩
      have W1 := tyContains_any (js.map F) 0 gu js.length wr (by simp; omega) (fun j hj => (hcl j hj).1)
      have W2 := typeOver_any kd (js.map F) gu wr (by simpa using hn3) (by simpa using hn1) HKK.out (fun _ => trivial) (by simpa using HK14.out) hcl
      simp only [List.length_map] at W1 W2
      have HBW : Hid _ := hbw
      have c0' : wr.cell? ⟨b, 0, none⟩ = _ := (hbw.cell (p := ⟨b, 0, none⟩) (by rw [← HGU.out]; exact World.block_lt_of_cell? w _ c0)).trans c0
      clear hcl HCL HBK hbw
      generalize overK kd (js.map F) = ov at *
      cases hct : (js.map F).contains 0 with
      | true =>
        rw [hct] at W1
        have HE : Hid (r = 0) := by show _ = _; rw [← HR.out, hct, if_pos rfl]
        clear W2 HR hct
        go_wp2_with fail
        refine W1.mono ?_
        rintro e w' ⟨rfl, rfl⟩
        clear W1
        go_wp2_with fail
        go_ret
        exact ⟨ret_int (by rw [HE.out]; rfl), by rw [HGU.out]; exact HBW.out⟩
      | false =>
        rw [hct] at W1
        have HE : Hid (r = ov) := by show _ = _; rw [← HR.out, hct]; rfl
        clear HR hct
        go_wp2_with fail
        refine W1.mono ?_
        rintro e w' ⟨rfl, rfl⟩
        clear W1
        go_wp2_with fail
        refine W2.mono ?_
        rintro e w2 ⟨rfl, hb2⟩
        clear W2
        go_wp2_with fail
        go_ret
        exact ⟨ret_int (by rw [HE.out]), by rw [HGU.out]; exact HBW.out.trans (hb2.mono (by rw [← HGU.out]; exact HBW.out.size))⟩
end Go.Proofs.YtfkdailfcmnjlaaGreatDoor

namespace Go.Proofs.YtfkdailfcmnjlaaGreatDoor
open Go Go.RowKit
set_option maxRecDepth 100000
variable {bs : Nat}

theorem contains_tcode {js : List Nat} {F : Nat → UInt8} (hF : ∀ j ∈ js, F j = 0 ∨ isTy (F j)) : (js.map fun j => tcode (F j)).contains 0 = (js.map F).contains 0 := by
  rw [Bool.eq_iff_iff, List.contains_iff_mem, List.contains_iff_mem, List.mem_map, List.mem_map]
  constructor
  · rintro ⟨j, hj, e⟩; exact ⟨j, hj, (tcode_zero (hF j hj)).1 e⟩
  · rintro ⟨j, hj, e⟩; exact ⟨j, hj, (tcode_zero (hF j hj)).2 e⟩
theorem tcode_nil : tcode 0 = 0 := by decide

theorem ptypeOf_any {L : List Pt} {xs : List Itm} {its : List UInt8} (hW : ∀ k, k < L.length → TokW (L.getD k noPt).tok) (hits : ∀ c ∈ its, isTy c) (hle : its.length ≤ xs.length) (hlx : xs.length ≤ 1001) (f : Nat) : ∀ {lo i b cap : Nat} {a : Option Addr} {w : World}, TreeF f L lo i → Given xs its.length L lo (i + 1) → CondS bs L (N1 (idx (giv xs))) w i b → TyAt w a (letTys (xs.take its.length) its) →
    Calls Tryz.prog 111 #[.pointer (some ⟨b, 0, none⟩), .slice a (letTys (xs.take its.length) its).length cap] w fun e w' => e = .returned (.int .i64 (tcode (tyOf xs its L f i))) ∧ Below w.heap.size w w' := by
  have hll := letTys_len (xs.take its.length) its (by simp; omega)
  induction f with
  | zero => intro lo i b cap a w h; exact h.elim
  | succ f ih =>
    intro lo i b cap a w hT hG hC hS
    by_cases ho : (L.getD i noPt).tok.k = 111
    · obtain ⟨hne, h0⟩ := hG i hT.le (by omega) ho
      have hix : ¬ idx (giv (xs.take its.length)) (L.getD i noPt).tok.text < 0 := fun h => by have := (giv_ix _ hne xs its.length).1 h; omega
      have hke := giv_keep its.length (xs := xs) (s := (L.getD i noPt).tok.text) (by omega)
      have hlt : (idx (giv (xs.take its.length)) (L.getD i noPt).tok.text).toNat < (letTys (xs.take its.length) its).length := by
        rw [hll]
        rcases idx_le (giv (xs.take its.length)) (L.getD i noPt).tok.text with h | h
        · omega
        · rw [h] at hix; exact absurd (by simp [idx]) hix
      refine typeOf_own (its := its) hT hC hS ?_ ho (by rw [hke]; omega) (by rw [hke]; exact hlt) ?_
      · rw [hll]
        have := giv_len (xs.take its.length)
        simp at this; omega
      · rw [hke, letTys_at _ hne xs its hle h0, tyOf, shape_leaf hT.2.1 ho]
        have e : tyCase xs its (L.getD i noPt).tok ([].map (tyOf xs its L f)) = (its.getD (letIx xs (L.getD i noPt).tok.text its.length).toNat 0).toNat := by
          unfold tyCase; rw [if_neg (by omega), if_pos ho]
        rw [e, UInt8.ofNat_toNat]; rfl
    · by_cases hs : (L.getD i noPt).subs = []
      · have ha : alone (L.getD i noPt).tok = true := by
          rcases hT.2.1 with ⟨h1, _⟩ | ⟨_, h1⟩ | ⟨_, h1⟩ | ⟨n, _, _, h1⟩
          · exact h1
          all_goals (rw [hs] at h1; simp at h1)
        have h1 := (ty_leaf xs its (hW i hT.1) ha ho).1
        have e : tcode (tyOf xs its L (f + 1) i) = wordK (kindOf (L.getD i noPt).tok) := by
          rw [tyOf, hs, ← h1]; rfl
        rw [e]
        exact typeOf_leaf hC ho hs
      · have hsub := forest_bounds _ hT.2.2
        have hty : ∀ j ∈ (L.getD i noPt).subs, tyOf xs its L f j = 0 ∨ isTy (tyOf xs its L f j) := fun j hj => by
          obtain ⟨lo', h1, h2, h3⟩ := hsub j hj
          exact tyOf_ty hW hits f h3 (fun q a b => hG q (by omega) (by omega))
        have h1 := typeOf_over (a := a) (m := (letTys (xs.take its.length) its).length) (cap := cap) (fun j => tcode (tyOf xs its L f j)) (fun j => tcode_le _) hC ho hT.2.1 hs (fun j hj bj w1 hCj hb => by
          obtain ⟨lo', h1, h2, h3⟩ := hsub j hj
          exact ih h3 (fun q a b => hG q (by omega) (by omega)) hCj (hS.grow hb))
        have e : (if (((L.getD i noPt).subs.map fun j => tcode (tyOf xs its L f j)).contains 0) = true then 0 else overK (kindOf (L.getD i noPt).tok) ((L.getD i noPt).subs.map fun j => tcode (tyOf xs its L f j))) = tcode (tyOf xs its L (f + 1) i) := by
          rw [contains_tcode hty, tyOf]
          cases hc : ((L.getD i noPt).subs.map (tyOf xs its L f)).contains 0 with
          | true => rw [if_pos rfl, if_pos rfl]; exact tcode_nil.symm
          | false =>
            rw [if_neg (by simp), if_neg (by simp)]
            refine (ty_over hT.2.1 hs (F := tyOf xs its L f) fun j hj => ?_).1.symm
            rcases hty j hj with h0 | h0
            · exfalso
              have : ((L.getD i noPt).subs.map (tyOf xs its L f)).contains 0 = true := by rw [List.contains_iff_mem, ← h0]; exact List.mem_map_of_mem hj
              rw [hc] at this; simp at this
            · exact h0
        rw [e] at h1
        exact h1

/-- Where no name is wrong, each item's names are given. -/
theorem names_given {xs : List Itm} {L : List Pt} (hL : PartsOK L) {x : Itm} {r : List Itm} {fr i : Nat} (hT : Tree L fr x.top) (hp : x.top + 1 = x.parts) (h : namesAt xs L (x :: r) fr i = none) :
    Given xs i L fr (x.top + 1) ∧ namesAt xs L r x.parts (i + 1) = none := by
  have h1 := (TreeF.res (xs := xs) (n := i) hL.up hT.fit).1
  rw [names_item hL hT hp] at h
  by_cases hc : x.name ≠ [] ∧ 0 ≤ idx (giv (xs.take i)) x.name
  · rw [if_pos hc] at h; simp at h
  · rw [if_neg hc] at h
    cases hr : resF (badOf xs i) (x.top + 1) L x.top with
    | some p => rw [hr] at h; simp at h
    | none =>
      rw [hr] at h1 h
      refine ⟨fun q h2 h3 ho => ⟨hL.own q (by have := hT.fit.lt; omega) ho, (wrongAt_fine _ _ _ h1).2 q h2 (by have := hT.fit.le; omega) ho⟩, h⟩
theorem ptypes_step {xs : List Itm} {L : List Pt} {x : Itm} {r : List Itm} {its : List UInt8} {t : Nat} {c : UInt8} (hc : c = tyOf xs its L (x.top + 1) x.top) (ht : t = tcode c) (hty : c = 0 ∨ isTy c) :
    typesAt xs L (x :: r) its = if t = 0 ∨ (x.name = [] ∧ t ≠ 2) then some x.pl else typesAt xs L r (its ++ [c]) := by
  rw [typesAt, ← hc, ht]
  have h0 : c.toNat = 0 ↔ tcode c = 0 := by rcases hty with rfl | rfl | rfl | rfl <;> decide
  have h2 : c.toNat = 116 ↔ tcode c = 2 := by rcases hty with rfl | rfl | rfl | rfl <;> decide
  simp only [h0, ne_eq, h2]
end Go.Proofs.YtfkdailfcmnjlaaGreatDoor
