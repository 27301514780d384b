/-
  The program's plain form of a policy. The document's plain form of every part; what is known of a text that was read, for its plain form. The document's 'tells': what a part of a condition tells. The document's 'tells' of every part of a condition that has its types. The document's Print. Every Print of the program is the document's.
-/
import Derived.Test.YtfkdailfcmnjlaaGreatDoorCompiles01
import Derived.Test.YtfkdailfcmnjlaaGreatDoorCompiles02
import Derived.Test.YtfkdailfcmnjlaaGreatDoorCompiles04
import Derived.Test.YtfkdailfcmnjlaaGreatDoorCompiles05
import Derived.Test.YtfkdailfcmnjlaaGreatDoorCompiles06
import Derived.Test.YtfkdailfcmnjlaaGreatDoorCompiles07
import Derived.Test.YtfkdailfcmnjlaaGreatDoorCompiles08
import Derived.Test.YtfkdailfcmnjlaaGreatDoorCompiles09
import Derived.Test.YtfkdailfcmnjlaaGreatDoorCompiles10
import Derived.Test.YtfkdailfcmnjlaaGreatDoorCompiles11
import Derived.Test.YtfkdailfcmnjlaaGreatDoorCompiles12
import Derived.Test.YtfkdailfcmnjlaaGreatDoorCompiles13
import Derived.Test.YtfkdailfcmnjlaaGreatDoorCompiles14
import Derived.Test.YtfkdailfcmnjlaaGreatDoorCompiles15
import Derived.Test.YtfkdailfcmnjlaaGreatDoorCompiles16
import Derived.Test.YtfkdailfcmnjlaaGreatDoorCompiles17
import Derived.Test.YtfkdailfcmnjlaaGreatDoorCompiles18
import Derived.Test.YtfkdailfcmnjlaaGreatDoorCompiles19
import Derived.Test.YtfkdailfcmnjlaaGreatDoorCompiles20
import Derived.Test.YtfkdailfcmnjlaaGreatDoorCompiles21
import Derived.Test.YtfkdailfcmnjlaaGreatDoorCompiles22
import Derived.Test.YtfkdailfcmnjlaaGreatDoorCompiles23
import Derived.Test.YtfkdailfcmnjlaaGreatDoorCompiles24
import Derived.Test.YtfkdailfcmnjlaaGreatDoorCompiles28
import Derived.Test.YtfkdailfcmnjlaaGreatDoorCompiles29
import Derived.Test.YtfkdailfcmnjlaaGreatDoorCompiles30
import Derived.Test.YtfkdailfcmnjlaaGreatDoorLays
import Derived.Test.YtfkdailfcmnjlaaGreatDoorLays2
import Derived.WalkKit
import Derived.Deep.QuietTactic
import Derived.BigQuiet
import Derived.WalkSpells
import GoSem.Op.String
import Derived.Deep.AppendLies
import Derived.Deep.RegionHeld3
import Derived.Deep.DrawnRows
import Derived.Deep.RegionHeldLaw
import Derived.Deep.RegionLaw
import Derived.Lib.ParseIntBCases
import Derived.Deep.OwnRows
import Derived.Lib.LaidTab
import Derived.Lib.AppendIntMem
import Derived.Shelf.Strings.Builder1
set_option linter.unusedVariables false
set_option linter.unusedSimpArgs false
namespace Go.Proofs.YtfkdailfcmnjlaaGreatDoor
open Go Go.RowKit
set_option maxRecDepth 100000
attribute [local go_sem ↓] Go.wp_at_zero Go.wp_at_succ
variable {bs : Nat}

theorem print_take {L : List Pt} {xs : List Itm} {k : Nat} (h : k < xs.length) : printL L (xs.take (k + 1)) = printL L (xs.take k) ++ itemL L (xs.getD k noItm) := by
  unfold printL
  rw [take_snoc h noItm, List.flatMap_append]; simp

end Go.Proofs.YtfkdailfcmnjlaaGreatDoor

namespace Go.Proofs.YtfkdailfcmnjlaaGreatDoor
open Go Go.RowKit
set_option maxRecDepth 100000

theorem item_name {F : Nat} {ts : List Tok} {i : Nat} {L : List Pt} {r : ItR} (h : itemP F ts i L = some r) (ok : r.ok = true) : r.it.name = [] ∨ ∃ t ∈ ts, r.it.name = t.text := by
  have tail : ∀ (j : Nat) (x : Itm), itemTail F ts j L x = some r → r.it.name = x.name := by
    intro j x hr
    obtain ⟨a, ha, hres⟩ := tail_parts hr
    rcases hres with ⟨oka, hw, rfl⟩ | ⟨_, hr1, _⟩
    · rfl
    · rw [hr1] at ok; simp at ok
  unfold itemP at h
  split at h
  · split at h
    · rename_i hk
      split at h
      · have hm := (inside (ts := ts) (i := i + 1) fun e => by rw [e] at hk; exact absurd hk (by decide)).2
        exact .inr ⟨_, hm, tail _ _ h⟩
      · simp [itFail] at h; subst h; simp at ok
    · simp [itFail] at h; subst h; simp at ok
  · split at h
    · split at h
      · exact .inl (tail _ _ h)
      · simp [itFail] at h; subst h; simp at ok
    · simp [itFail] at h; subst h; simp at ok
theorem parse_named {F : Nat} {ts : List Tok} (g : Nat) : ∀ (i : Nat) (L : List Pt) (xs : List Itm) (R : AllR), (∀ x ∈ xs, x.name = [] ∨ ∃ t ∈ ts, x.name = t.text) → parseAll F ts g i L xs = some R → R.ok = true → ∀ x ∈ R.xs, x.name = [] ∨ ∃ t ∈ ts, x.name = t.text := by
  induction g with
  | zero => intro i L xs R _ h; rw [parseAll] at h; simp at h
  | succ g ih =>
    intro i L xs R hT h ok
    by_cases hk : (tokAt ts i).k = 101
    · have := parse_end h hk; subst this; exact hT
    · rw [parseAll, if_neg hk] at h
      cases hr : itemP F ts i L with
      | none => rw [hr] at h; simp at h
      | some r =>
        rw [hr] at h
        simp only at h
        by_cases okr : r.ok = true
        · rw [if_pos okr] at h
          refine ih r.i r.L (xs ++ [r.it]) R (fun x hx => ?_) h ok
          rcases List.mem_append.1 hx with hx | hx
          · exact hT x hx
          · rw [List.mem_singleton] at hx; subst hx; exact item_name hr okr
        · rw [if_neg okr] at h; simp at h; subst h; simp at ok

/-- What a text that was read gives for its plain form. -/
structure PrintOK (L : List Pt) (xs : List Itm) : Prop where
  parts : PlainOK L
  trees : TreesAt L xs 0
  names : ∀ x ∈ xs, x.name.length ≤ 1000
theorem print_known (l : List UInt8) (h0 : (readOf l).1.1 = 0) : PrintOK (readOf l).2.1 (readOf l).2.2 := by
  unfold readOf at *
  by_cases h1 : 1000 < l.length
  · rw [if_pos h1] at h0; simp at h0
  · rw [if_neg h1] at h0 ⊢
    cases hx : (lex (l.length + 1) l 0).2 with
    | some p => rw [hx] at h0; simp at h0
    | none =>
      rw [hx] at h0
      simp only [] at h0 ⊢
      have hlex : lex (l.length + 1) l 0 = ((lex (l.length + 1) l 0).1, none) := by rw [← hx]
      obtain ⟨r1, r2, r3, r4, r5⟩ := lex_ok l (by omega) (l.length + 1) 0 _ (Nat.zero_le _) (by omega) hlex
      obtain ⟨hwo, hwl⟩ := lex_words l (l.length + 1) 0 _ (Nat.zero_le _) (by omega) hlex
      generalize (lex (l.length + 1) l 0).1 = ts at *
      obtain ⟨R, hR⟩ := parse_total (F := 16 * ts.length + 8) (Nat.le_refl _) r4 (ts.length + 1) 0 [] [] (by omega)
      have e : allOf ts = R := by unfold allOf; rw [hR]; rfl
      rw [e] at h0 ⊢
      have ok : R.ok = true := by
        cases hk : R.ok with
        | true => rfl
        | false => unfold verdictOf at h0; rw [if_pos hk] at h0; simp at h0
      obtain ⟨k1, k2, k3⟩ := all_known hwo (by omega) hR ok
      obtain ⟨_, k4, _, _⟩ := parse_trees hwo.sorted _ 0 [] [] R rfl ⟨by simp, by simp, by simp⟩ (by simp) (by omega) hR ok
      have k5 := parse_named _ 0 [] [] R (by simp) hR ok
      refine ⟨⟨k3, fun k hk => (r3 _ (k4.2.2 k hk)).1, fun k hk hn => ((r3 _ (k4.2.2 k hk)).2 hn).2, k2.few⟩, k1, fun x hx => ?_⟩
      rcases k5 x hx with h | ⟨t, ht, h⟩
      · rw [h]; simp
      · rw [h]; exact (r3 t ht).1

theorem toPt_getD (ps : List PartS) (k : Nat) : (ps.map toPt).getD k noPt = toPt (ps.getD k noPart) := by
  rw [List.getD_eq_getElem?_getD, List.getD_eq_getElem?_getD, List.getElem?_map]
  cases ps[k]? <;> rfl
theorem rplain_any {B g cap : Nat} {a : Option Addr} {n c : Nat} {ps : List PartS} (hL : PlainOK (ps.map toPt)) (hn : ∀ p ∈ ps, p.n = numOf p.tok) (f : Nat) : ∀ {lo k : Nat} {w : World}, TreeF f (ps.map toPt) lo k → PartsIn B g cap ps w →
    Calls Tryz.prog 35 #[.agg #[.slice a n c, .slice (some ⟨g, 0, none⟩) ps.length cap], .int .i64 k] w fun e w' => e = .returned (S (plainF f (ps.map toPt) k)) ∧ Below w.heap.size w w' := by
  induction f with
  | zero => intro lo k w h; exact h.elim
  | succ f ih =>
    intro lo k w hT hP
    have hlt := hT.lt
    have hltp : k < ps.length := by simpa using hlt
    have hsub := forest_bounds _ hT.2.2
    have hsh := hT.2.1
    have hnum := hL.num k hlt
    have hsho := hL.short k hlt
    rw [toPt_getD] at hsub hsh hnum hsho
    have hpm : ps.getD k noPart ∈ ps := by rw [List.getD_eq_getElem?_getD, List.getElem?_eq_getElem hltp]; exact List.getElem_mem hltp
    have hnn := hn _ hpm
    have hps : ps.length ≤ 5000 := by simpa using hL.few
    have hlen : ∀ j ∈ (ps.getD k noPart).subs, (plainF f (ps.map toPt) j).length ≤ 100000000 := fun j hj => by
      obtain ⟨lo', h1, h2, h3⟩ := hsub j hj
      have h6 := TreeF.plain_len hL.short h3
      have : 1100 * (j + 1 - lo') ≤ 1100 * 5000 := Nat.mul_le_mul_left _ (by omega)
      omega
    have h := rplain_step (a := a) (n := n) (c := c) (L := ps.map toPt) f (fun j => if j ∈ (ps.getD k noPart).subs then plainF f (ps.map toPt) j else [])
      (fun j => by split; exact hlen j (by assumption); simp) k w hP hltp hsho
      (by rcases hsh with ⟨_, h⟩ | ⟨_, h⟩ | ⟨_, h⟩ | ⟨_, _, _, h⟩
          · have : (ps.getD k noPart).subs = [] := h
            rw [this]; simp
          all_goals (have : (ps.getD k noPart).subs.length = _ := h; omega))
      (fun j hj => by obtain ⟨lo', h1, h2, h3⟩ := hsub j hj; omega)
      (fun hk => ⟨by rw [hnn]; unfold numOf; rw [if_pos hk], hnum hk⟩)
      (fun j hj w1 h1 => by
        obtain ⟨lo', _, _, h3⟩ := hsub j hj
        have := ih h3 h1
        rw [if_pos hj]; exact this)
    have em : (ps.getD k noPart).subs.map (fun j => if j ∈ (ps.getD k noPart).subs then plainF f (ps.map toPt) j else []) = (ps.getD k noPart).subs.map (plainF f (ps.map toPt)) :=
      List.map_congr_left fun j hj => if_pos hj
    rw [em] at h
    rw [plainF, toPt_getD]
    exact h
end Go.Proofs.YtfkdailfcmnjlaaGreatDoor

namespace Go.Proofs.YtfkdailfcmnjlaaGreatDoor
open Go Go.RowKit
set_option maxRecDepth 100000
attribute [local go_sem ↓] Go.wp_at_zero Go.wp_at_succ

def intCells (l : List Int) : List Value := l.map fun v => Value.int .i64 v
/-- The policy lies in memory, what the items so far told, and the fields. -/
structure TelIn (B gi c g cap gf : Nat) (xs : List Itm) (ps : List PartS) (bv : Value) (vals fl : List Int) (w : World) : Prop where
  items : ItemsIn B (.slice (some ⟨gi, 0, none⟩) xs.length c) xs w
  parts : PartsIn B g cap ps w
  row : w.ownsRow B 2 1 bv vals.length (intCells vals)
  len : vals.length ≤ xs.length
  fields : ∀ i, i < 9 → w.cell? ⟨gf, i, none⟩ = some (.int .i64 (fl.getD i 0))
theorem TelIn.below {B gi c g cap gf : Nat} {xs : List Itm} {ps : List PartS} {bv : Value} {vals fl : List Int} {w w' : World} (h : TelIn B gi c g cap gf xs ps bv vals fl w) (hb : Below w.heap.size w w') : TelIn B gi c g cap gf xs ps bv vals fl w' :=
  ⟨h.items.below hb, h.parts.below hb, ownsRow_below h.row hb, h.len, fun i hi => by rw [hb.cell (p := ⟨gf, i, none⟩) (World.block_lt_of_cell? w _ (h.fields i hi))]; exact h.fields i hi⟩
theorem int_at {base : Nat} {va : Option Addr} {vc : Nat} {vals : List Int} {w : World} (h : w.ownsRow base 2 1 (.slice va vals.length vc) vals.length (intCells vals)) (l : Nat) (hl : l < vals.length) :
    ∃ g, va = some ⟨g, 0, none⟩ ∧ w.cell? ⟨g, l, none⟩ = some (.int .i64 (vals.getD l 0)) := by
  rcases h.2 with ⟨_, h0⟩ | ⟨g, cap, cur, e, _⟩
  · omega
  · cases e
    refine ⟨g, rfl, ?_⟩
    have ha : (⟨g, 0, none⟩ : Addr).add l = ⟨g, l, none⟩ := by unfold Addr.add; split <;> simp_all
    rw [← ha]
    exact h.cells (g := g) rfl l _ (by simp [intCells, hl])

set_option maxHeartbeats 8000000 in
theorem tells_step {B gi c g cap gf : Nat} {xs : List Itm} {ps : List PartS} {bv : Value} {vals fl : List Int} (T : Nat → Int)
    (k : Nat) (w : World) (h : TelIn B gi c g cap gf xs ps bv vals fl w) (hk : k < ps.length) (hT : ∀ j ∈ (ps.getD k noPart).subs, In64 (T j)) (hnot : ∀ a, (ps.getD k noPart).subs = [a] → T a = 0 ∨ T a = 1) (hl3 : (ps.getD k noPart).subs.length ≤ 3) (hsm : ∀ j ∈ (ps.getD k noPart).subs, j ≤ 5000)
    (hnn : (ps.getD k noPart).tok.k = 110 → (ps.getD k noPart).n = decVal (ps.getD k noPart).tok.text) (hown : (ps.getD k noPart).tok.k = 111 → (ps.getD k noPart).subs = [] → 0 ≤ letIx xs (ps.getD k noPart).tok.text vals.length)
    (ih : ∀ j ∈ (ps.getD k noPart).subs, ∀ (w1 : World), TelIn B gi c g cap gf xs ps bv vals fl w1 → Calls Tryz.prog 42 #[.agg #[.slice (some ⟨gi, 0, none⟩) xs.length c, .slice (some ⟨g, 0, none⟩) ps.length cap], .int .i64 j, bv, .slice (some ⟨gf, 0, none⟩) 9 9] w1 fun e w' => e = .returned (.int .i64 (T j)) ∧ Below w1.heap.size w1 w') :
    Calls Tryz.prog 42 #[.agg #[.slice (some ⟨gi, 0, none⟩) xs.length c, .slice (some ⟨g, 0, none⟩) ps.length cap], .int .i64 k, bv, .slice (some ⟨gf, 0, none⟩) 9 9] w fun e w' => e = .returned (.int .i64 (overI (ps.getD k noPart).tok.text (wordI xs vals fl (ps.getD k noPart).tok) ((ps.getD k noPart).subs.map T))) ∧ Below w.heap.size w w' := by
  obtain ⟨k0, k1, k2, k3, k4⟩ := h.parts.cells k hk
  have hpf := h.parts.few
  have hif := h.items.few
  have hone : (ps.getD k noPart).sv.oneCell' = true := by
    have hm : ps.getD k noPart ∈ ps := by rw [List.getD_eq_getElem?_getD, List.getElem?_eq_getElem hk]; exact List.getElem_mem hk
    exact (h.parts.subs _ hm).one
  have b1 : (0 : Int) ≤ (k : Int) := by omega
  have b2 : (k : Int) < (ps.length : Int) := by omega
  have lg := World.block_lt_of_cell? w _ k0
  simp only at lg
  have hsub := h.parts.sub k hk
  have IH : Hid _ := ih
  have HN : Hid _ := hnn
  have HOW : Hid _ := hown
  have HSM : Hid _ := hsm
  have HNOT : Hid _ := hnot
  have HT : Hid _ := hT
  have HH : Hid (TelIn B gi c g cap gf xs ps bv vals fl w) := h
  have hvl := h.len
  obtain ⟨va, vc, rfl⟩ : ∃ a c, bv = .slice a vals.length c := by
    rcases h.row.2 with ⟨e, hn⟩ | ⟨gg, cc, cur, e, _⟩
    · exact ⟨none, 0, by rw [hn]; exact e⟩
    · exact ⟨_, _, e⟩
  clear ih hnn hsm h hown hnot hT
  generalize ps.getD k noPart = pp at *
  obtain ⟨sa, hsv, hsc⟩ : ∃ sa, pp.sv = .slice sa pp.subs.length pp.subs.length ∧ ∀ j, j < pp.subs.length → ∃ sb, sa = some ⟨sb, 0, none⟩ ∧ w.cell? ⟨sb, j, none⟩ = some (.int .i64 (pp.subs.getD j 0)) := by
    rcases hsub with ⟨e1, e2⟩ | ⟨sb, e2, hcs⟩
    · exact ⟨none, by rw [e1, e2]; rfl, fun j hj => by rw [e1] at hj; simp at hj⟩
    · refine ⟨some ⟨sb, 0, none⟩, e2, fun j hj => ⟨sb, rfl, ?_⟩⟩
      exact hcs j hj
  rw [hsv] at k3 hone
  have HSC : Hid _ := hsc
  clear hsub hsc hsv
  generalize pp.subs = sl at *
  generalize hr : (overI pp.tok.text (wordI xs vals fl pp.tok) (sl.map T)) = r
  have HR : Hid _ := hr
  clear hr
  have hB0 : Below w.heap.size w ((w.alloc (polObj gi xs.length c g ps.length cap)).alloc (.cells #[.int .u8 pp.tok.k, S pp.tok.text, .int .i64 pp.tok.pl, .slice sa sl.length sl.length, .int .i64 pp.n] 169)) := ((Below.refl _ _).alloc (Nat.le_refl _) _).alloc (by simp) _
  have hX0 : ((w.alloc (polObj gi xs.length c g ps.length cap)).alloc (.cells #[.int .u8 pp.tok.k, S pp.tok.text, .int .i64 pp.tok.pl, .slice sa sl.length sl.length, .int .i64 pp.n] 169)).heap[w.heap.size]? = some (polObj gi xs.length c g ps.length cap) := by rw [Below.heap_alloc _ _ _ (by simp)]; exact heap_alloc_new w _
  have hP0 : ((w.alloc (polObj gi xs.length c g ps.length cap)).alloc (.cells #[.int .u8 pp.tok.k, S pp.tok.text, .int .i64 pp.tok.pl, .slice sa sl.length sl.length, .int .i64 pp.n] 169)).heap[w.heap.size + 1]? = some (.cells #[.int .u8 pp.tok.k, S pp.tok.text, .int .i64 pp.tok.pl, .slice sa sl.length sl.length, .int .i64 pp.n] 169 (0, 0)) := by have e := heap_alloc_new (w.alloc (polObj gi xs.length c g ps.length cap)) (.cells #[.int .u8 pp.tok.k, S pp.tok.text, .int .i64 pp.tok.pl, .slice sa sl.length sl.length, .int .i64 pp.n] 169); rw [World.size_alloc] at e; exact e
  have H0 : Hid _ := And.intro hB0 (And.intro hX0 hP0)
  clear hB0 hX0 hP0
  match sl, hl3 with
  | [], _ =>
    clear HSC IH HSM HNOT HT
    have HRW : Hid (r = wordI xs vals fl pp.tok) := by show _ = _; rw [← HR.out]; rfl
    have HOW2 : Hid (pp.tok.k = 111 → 0 ≤ letIx xs pp.tok.text vals.length) := fun h => HOW.out h rfl
    clear HR HOW
    simp only [List.length_nil] at *
    go_enter Tryz.func42, Tryz.ntmps42
    go_wp2_with fail
    obtain ⟨hBw, hXw, hPw⟩ := H0.out
    clear H0 k0 k1 k2 k3 k4
    generalize ((w.alloc (polObj gi xs.length c g ps.length cap)).alloc (.cells #[.int .u8 pp.tok.k, S pp.tok.text, .int .i64 pp.tok.pl, .slice sa 0 0, .int .i64 pp.n] 169)) = wr at *
    have x1 := cell_of_row wr (w.heap.size + 1) 1 _ _ _ hPw
    simp only [List.getElem?_toArray, List.getElem?_cons_zero, List.getElem?_cons_succ] at x1
    have lX := lt_of_get hXw
    have lP := lt_of_get hPw
    have hBs := hBw.size
    go_region_held3 (fun w' => w'.cell? ⟨w.heap.size + 1, 1, none⟩ = some (S pp.tok.text))
      (first | go_keep | (rw [hb1.cell (p := ⟨w.heap.size + 1, 1, none⟩) (by simp <;> omega)]; first | assumption | (simp [*]; done)))
      (first
        | (go_at_call 88; refine (fields_any _).mono ?_; rintro e w1 ⟨x1, rfl, hc1, hb1, hl1, hs1⟩)
        | (go_at_call 87; refine (index_any kFields _ x1 _ (by decide) hc1).mono ?_; rintro e w1 ⟨rfl, rfl⟩))
    rename_i hHeld
    clear hHeld
    have hb2 : Below wr.heap.size wr w1 := (Below.refl _ _).drew.trans hb1
    have hs2 := hb2.size
    have hX1 : w1.heap[w.heap.size]? = some (polObj gi xs.length c g ps.length cap) := by rw [hb2.block _ lX]; exact hXw
    have hP1 := (hb2.block _ lP).trans hPw
    have x1 := cell_of_row w1 (w.heap.size + 1) 1 _ _ _ hP1
    simp only [List.getElem?_toArray, List.getElem?_cons_zero, List.getElem?_cons_succ] at x1
    clear hb1 hc1 hl1 hs1
    go_wp2_with fail
    go_region_held3 (fun w' => w'.cell? ⟨w.heap.size + 1, 1, none⟩ = some (S pp.tok.text))
      (first | go_keep | (rw [hb4.cell (p := ⟨w.heap.size + 1, 1, none⟩) (by simp <;> omega)]; first | assumption | (simp [*]; done)))
      (first
        | (go_at_call 89; refine (members_any _).mono ?_; rintro e w5 ⟨x5, rfl, hc5, hb4, hl5, hs5⟩)
        | (go_at_call 87; refine (index_any kMembers _ x5 _ (by decide) hc5).mono ?_; rintro e w5 ⟨rfl, rfl⟩))
    rename_i hHeld
    clear hHeld
    have hb6 : Below w1.heap.size w1 w5 := (Below.refl _ _).drew.trans hb4
    have hb7 : Below wr.heap.size wr w5 := hb2.trans (hb6.mono hs2)
    have hB5 : Below w.heap.size w w5 := hBw.trans (hb7.mono hBw.size)
    have hX5 : w5.heap[w.heap.size]? = some (polObj gi xs.length c g ps.length cap) := by rw [hb7.block _ lX]; exact hXw
    have hP5 := (hb7.block _ lP).trans hPw
    have q0 := cell_of_row w5 w.heap.size 0 _ _ _ hX5
    have q1 := cell_of_row w5 w.heap.size 1 _ _ _ hX5
    have p0 := cell_of_row w5 (w.heap.size + 1) 0 _ _ _ hP5
    have p1 := cell_of_row w5 (w.heap.size + 1) 1 _ _ _ hP5
    have p4 := cell_of_row w5 (w.heap.size + 1) 4 _ _ _ hP5
    have hs5' := hB5.size
    simp only [List.getElem?_toArray, List.getElem?_cons_zero, List.getElem?_cons_succ] at q0 q1 p0 p1 p4
    have i1 := idx_ge kMembers pp.tok.text
    have i2 := idx_ge kFields pp.tok.text
    have i3 := idx_lt kFields pp.tok.text
    have i4 := idx_lt kMembers pp.tok.text
    have hFC := (HH.out.below hB5).fields
    clear hb4 hc5 hl5 hs5 hb6 hb2 hb7 hX1 hP1 hXw hPw hBw lX lP hs2 hX5 hP5 x1 hBs
    have hTC := HRW.out
    unfold wordI at hTC
    generalize hM : idx kMembers pp.tok.text = m at *
    generalize hF : idx kFields pp.tok.text = n at *
    have HTC : Hid _ := hTC
    have HFC : Hid _ := hFC
    clear hTC hM hF hFC HRW
    by_cases hk1 : pp.tok.k = 110
    · have hk1' : ((pp.tok.k : Int) == 110) = true := by simp; omega
      have hres : Hid (r = pp.n) := by show _ = _; rw [HTC.out, if_pos hk1, HN.out hk1]
      clear HTC hk1
      go_wp2_with fail
      go_ret
      exact ⟨by rw [hres.out]; rfl, hB5⟩
    have hk1' : ((pp.tok.k : Int) == 110) = false := by simp; omega
    by_cases hk2 : pp.tok.k = 111
    · have hk2' : ((pp.tok.k : Int) == 111) = true := by simp; omega
      have hge := HOW2.out hk2
      have hres : Hid (r = vals.getD (letIx xs pp.tok.text vals.length).toNat 0) := by show _ = _; rw [HTC.out, if_neg hk1, if_pos hk2]
      have hll := letIx_lt xs pp.tok.text vals.length
      have hpol := HH.out.below hB5
      have WL := let_any hpol.items (some ⟨g, 0, none⟩) ps.length cap pp.tok.text vals.length hvl
      have HPL : Hid _ := hpol
      clear HTC hk1 hk2 hpol
      go_wp2_with fail
      refine WL.mono ?_
      rintro e w6 ⟨rfl, hb8⟩
      clear WL
      have hpol6 := HPL.out.below hb8
      have hB6 : Below w.heap.size w w6 := hB5.trans (hb8.mono hB5.size)
      obtain ⟨gb, rfl, hcb⟩ := int_at hpol6.row (letIx xs pp.tok.text vals.length).toNat (by omega)
      obtain ⟨l, hl⟩ : ∃ l : Nat, letIx xs pp.tok.text vals.length = l := ⟨_, (Int.toNat_of_nonneg hge).symm⟩
      rw [hl] at hcb hres hge hll ⊢
      simp only [Int.toNat_natCast] at hcb hres
      have c1 : (l : Int) < (vals.length : Int) := by omega
      generalize vals.getD l 0 = vl at *
      clear hl q0 q1 p0 p1 p4 hpol6 hb8 HPL
      go_wp2_with fail
      go_ret
      exact ⟨by rw [hres.out]; rfl, hB6⟩
    have hk2' : ((pp.tok.k : Int) == 111) = false := by simp; omega
    by_cases hn : 0 ≤ n
    · have hres : Hid (r = fl.getD n.toNat 0) := by show _ = _; rw [HTC.out, if_neg hk1, if_neg hk2, if_pos hn]
      obtain ⟨l, rfl⟩ : ∃ l : Nat, n = l := ⟨n.toNat, (Int.toNat_of_nonneg hn).symm⟩
      have hl9 : l < 9 := by have : (kFields.length : Int) = 9 := rfl; omega
      have hcf := HFC.out l hl9
      simp only [Int.toNat_natCast] at hres
      generalize fl.getD l 0 = vl at *
      clear HTC hk1 hk2
      have c1 : (l : Int) < 9 := by omega
      go_wp2_with fail
      go_ret
      exact ⟨by rw [hres.out]; rfl, hB5⟩
    by_cases hm : 0 ≤ m
    · have hres : Hid (r = m) := by show _ = _; rw [HTC.out, if_neg hk1, if_neg hk2, if_neg hn, if_pos hm]
      have hn' : n < 0 := by omega
      have hm5 : m < 5 := by have : (kMembers.length : Int) = 5 := rfl; omega
      clear HTC hk1 hk2 hn
      go_wp2_with fail
      go_ret
      exact ⟨by rw [hres.out]; rfl, hB5⟩
    have hn' : n < 0 := by omega
    have hm' : m < 0 := by omega
    have hres : Hid (r = truthI (pp.tok.text == wTrue)) := by show _ = _; rw [HTC.out, if_neg hk1, if_neg hk2, if_neg hn, if_neg hm]
    have WT := fun W => truth_any (pp.tok.text == [116, 114, 117, 101]) W
    have e9 : (pp.tok.text == wTrue) = (pp.tok.text == [116, 114, 117, 101]) := rfl
    rw [e9] at hres
    clear HTC hk1 hk2 hn hm e9
    generalize truthI (pp.tok.text == [116, 114, 117, 101]) = tr at *
    go_wp2_with fail
    refine (WT _).mono ?_
    rintro e w6 ⟨rfl, rfl⟩
    clear WT
    go_wp2_with fail
    go_ret
    exact ⟨by rw [hres.out]; rfl, hB5⟩
  | [y], _ =>
    obtain ⟨sb, rfl, hc0⟩ := HSC.out 0 (by simp)
    have HR2 : Hid (r = 1 - T y) := by show _ = _; rw [← HR.out]; rfl
    have hy := HNOT.out y rfl
    have Wy := IH.out y (by simp)
    have hy5 := HSM.out y (by simp)
    simp only [List.getD_cons_zero] at hc0
    clear HSC HR IH HSM HNOT HN HOW HT
    simp only [List.length_cons, List.length_nil, Nat.zero_add] at *
    go_enter Tryz.func42, Tryz.ntmps42
    go_wp2_with fail
    obtain ⟨hBwr, hXwr, hPwr⟩ := H0.out
    clear H0 k0 k1 k2 k3 k4
    generalize ((w.alloc (polObj gi xs.length c g ps.length cap)).alloc (.cells #[.int .u8 pp.tok.k, S pp.tok.text, .int .i64 pp.tok.pl, .slice (some ⟨sb, 0, none⟩) 1 1, .int .i64 pp.n] 169)) = wr at *
    have p0 := cell_of_row wr w.heap.size 0 _ _ _ hXwr
    have p1 := cell_of_row wr w.heap.size 1 _ _ _ hXwr
    have x1 := cell_of_row wr (w.heap.size + 1) 1 _ _ _ hPwr
    have x3 := cell_of_row wr (w.heap.size + 1) 3 _ _ _ hPwr
    simp only [List.getElem?_toArray, List.getElem?_cons_zero, List.getElem?_cons_succ] at p0 p1 x1 x3
    have hs0wr : wr.cell? ⟨sb, 0, none⟩ = some (.int .i64 y) := by rw [hBwr.cell (p := ⟨sb, 0, none⟩) (World.block_lt_of_cell? w _ hc0)]; exact hc0
    have KF : Hid (∀ w', Below wr.heap.size wr.drew w' → (w'.cell? ⟨w.heap.size, 0, none⟩ = some (.slice (some ⟨gi, 0, none⟩) xs.length c) ∧ w'.cell? ⟨w.heap.size, 1, none⟩ = some (.slice (some ⟨g, 0, none⟩) ps.length cap) ∧ w'.cell? ⟨w.heap.size + 1, 3, none⟩ = some (.slice (some ⟨sb, 0, none⟩) 1 1) ∧ w'.cell? ⟨sb, 0, none⟩ = some (.int .i64 y))) := fun w' h => by
      rw [h.cell (p := ⟨w.heap.size, 0, none⟩) (lt_of_get hXwr), h.cell (p := ⟨w.heap.size, 1, none⟩) (lt_of_get hXwr), h.cell (p := ⟨w.heap.size + 1, 3, none⟩) (lt_of_get hPwr), h.cell (p := ⟨sb, 0, none⟩) (World.block_lt_of_cell? wr _ hs0wr)]
      exact ⟨p0, p1, x3, hs0wr⟩
    have WC := Wy wr.drew (HH.out.below hBwr.drew)
    go_region_held3 (fun w' => w'.cell? ⟨w.heap.size, 0, none⟩ = some (.slice (some ⟨gi, 0, none⟩) xs.length c) ∧ w'.cell? ⟨w.heap.size, 1, none⟩ = some (.slice (some ⟨g, 0, none⟩) ps.length cap) ∧ w'.cell? ⟨w.heap.size + 1, 3, none⟩ = some (.slice (some ⟨sb, 0, none⟩) 1 1) ∧ w'.cell? ⟨sb, 0, none⟩ = some (.int .i64 y)) (first | exact KF.out _ hbc | go_keep) ((go_at_call 42; refine WC.mono ?_; rintro e w1 ⟨rfl, hbc⟩))
    rename_i hHeld
    clear hHeld
    have hbd : Below wr.heap.size wr w1 := (Below.refl _ _).drew.trans hbc
    have hBw1 : Below w.heap.size w w1 := hBwr.trans (hbd.mono hBwr.size)
    have hXw1 := (hbd.block _ (lt_of_get hXwr)).trans hXwr
    have hPw1 := (hbd.block _ (lt_of_get hPwr)).trans hPwr
    clear p0 p1 x1 x3 hs0wr KF WC hbc hbd hXwr hPwr hBwr
    generalize T y = ty at *
    have w3 : IntKind.i64.wrap (1 - ty) = 1 - ty := wrap64 (by unfold In64; omega)
    have HB : Hid _ := hBw1
    clear hy hXw1 hPw1 hBw1
    go_wp2_with fail
    go_ret
    exact ⟨by rw [HR2.out]; rfl, HB.out⟩
  | [y, z], _ =>
    obtain ⟨sb, rfl, hc0⟩ := HSC.out 0 (by simp)
    obtain ⟨sb', e', hc1⟩ := HSC.out 1 (by simp)
    obtain rfl : sb = sb' := by simpa using e'
    have HR2 : Hid (r = twoI pp.tok.text (T y) (T z)) := by show _ = _; rw [← HR.out]; rfl
    have hy := HT.out y (by simp)
    have hz := HT.out z (by simp)
    have Wy := IH.out y (by simp)
    have Wz := IH.out z (by simp)
    have hy5 := HSM.out y (by simp)
    have hz5 := HSM.out z (by simp)
    simp only [List.getD_cons_zero, List.getD_cons_succ] at hc0 hc1
    clear HSC HR IH HSM HNOT HN HOW HT e'
    simp only [List.length_cons, List.length_nil, Nat.zero_add, Nat.reduceAdd] at *
    go_enter Tryz.func42, Tryz.ntmps42
    go_wp2_with fail
    obtain ⟨hBwr, hXwr, hPwr⟩ := H0.out
    clear H0 k0 k1 k2 k3 k4
    generalize ((w.alloc (polObj gi xs.length c g ps.length cap)).alloc (.cells #[.int .u8 pp.tok.k, S pp.tok.text, .int .i64 pp.tok.pl, .slice (some ⟨sb, 0, none⟩) 2 2, .int .i64 pp.n] 169)) = wr at *
    have p0 := cell_of_row wr w.heap.size 0 _ _ _ hXwr
    have p1 := cell_of_row wr w.heap.size 1 _ _ _ hXwr
    have x1 := cell_of_row wr (w.heap.size + 1) 1 _ _ _ hPwr
    have x3 := cell_of_row wr (w.heap.size + 1) 3 _ _ _ hPwr
    simp only [List.getElem?_toArray, List.getElem?_cons_zero, List.getElem?_cons_succ] at p0 p1 x1 x3
    have hs0wr : wr.cell? ⟨sb, 0, none⟩ = some (.int .i64 y) := by rw [hBwr.cell (p := ⟨sb, 0, none⟩) (World.block_lt_of_cell? w _ hc0)]; exact hc0
    have KF : Hid (∀ w', Below wr.heap.size wr.drew w' → (w'.cell? ⟨w.heap.size, 0, none⟩ = some (.slice (some ⟨gi, 0, none⟩) xs.length c) ∧ w'.cell? ⟨w.heap.size, 1, none⟩ = some (.slice (some ⟨g, 0, none⟩) ps.length cap) ∧ w'.cell? ⟨w.heap.size + 1, 3, none⟩ = some (.slice (some ⟨sb, 0, none⟩) 2 2) ∧ w'.cell? ⟨sb, 0, none⟩ = some (.int .i64 y))) := fun w' h => by
      rw [h.cell (p := ⟨w.heap.size, 0, none⟩) (lt_of_get hXwr), h.cell (p := ⟨w.heap.size, 1, none⟩) (lt_of_get hXwr), h.cell (p := ⟨w.heap.size + 1, 3, none⟩) (lt_of_get hPwr), h.cell (p := ⟨sb, 0, none⟩) (World.block_lt_of_cell? wr _ hs0wr)]
      exact ⟨p0, p1, x3, hs0wr⟩
    have WC := Wy wr.drew (HH.out.below hBwr.drew)
    go_region_held3 (fun w' => w'.cell? ⟨w.heap.size, 0, none⟩ = some (.slice (some ⟨gi, 0, none⟩) xs.length c) ∧ w'.cell? ⟨w.heap.size, 1, none⟩ = some (.slice (some ⟨g, 0, none⟩) ps.length cap) ∧ w'.cell? ⟨w.heap.size + 1, 3, none⟩ = some (.slice (some ⟨sb, 0, none⟩) 2 2) ∧ w'.cell? ⟨sb, 0, none⟩ = some (.int .i64 y)) (first | exact KF.out _ hbc | go_keep) ((go_at_call 42; refine WC.mono ?_; rintro e w1 ⟨rfl, hbc⟩))
    rename_i hHeld
    clear hHeld
    have hbd : Below wr.heap.size wr w1 := (Below.refl _ _).drew.trans hbc
    have hBw1 : Below w.heap.size w w1 := hBwr.trans (hbd.mono hBwr.size)
    have hXw1 := (hbd.block _ (lt_of_get hXwr)).trans hXwr
    have hPw1 := (hbd.block _ (lt_of_get hPwr)).trans hPwr
    clear p0 p1 x1 x3 hs0wr KF WC hbc hbd hXwr hPwr hBwr
    go_wp2_with fail
    have p0 := cell_of_row w1 w.heap.size 0 _ _ _ hXw1
    have p1 := cell_of_row w1 w.heap.size 1 _ _ _ hXw1
    have x1 := cell_of_row w1 (w.heap.size + 1) 1 _ _ _ hPw1
    have x3 := cell_of_row w1 (w.heap.size + 1) 3 _ _ _ hPw1
    simp only [List.getElem?_toArray, List.getElem?_cons_zero, List.getElem?_cons_succ] at p0 p1 x1 x3
    have hs1w1 : w1.cell? ⟨sb, 1, none⟩ = some (.int .i64 z) := by rw [hBw1.cell (p := ⟨sb, 1, none⟩) (World.block_lt_of_cell? w _ hc1)]; exact hc1
    have KF : Hid (∀ w', Below w1.heap.size w1.drew w' → (w'.cell? ⟨w.heap.size, 0, none⟩ = some (.slice (some ⟨gi, 0, none⟩) xs.length c) ∧ w'.cell? ⟨w.heap.size, 1, none⟩ = some (.slice (some ⟨g, 0, none⟩) ps.length cap) ∧ w'.cell? ⟨w.heap.size + 1, 3, none⟩ = some (.slice (some ⟨sb, 0, none⟩) 2 2) ∧ w'.cell? ⟨sb, 1, none⟩ = some (.int .i64 z))) := fun w' h => by
      rw [h.cell (p := ⟨w.heap.size, 0, none⟩) (lt_of_get hXw1), h.cell (p := ⟨w.heap.size, 1, none⟩) (lt_of_get hXw1), h.cell (p := ⟨w.heap.size + 1, 3, none⟩) (lt_of_get hPw1), h.cell (p := ⟨sb, 1, none⟩) (World.block_lt_of_cell? w1 _ hs1w1)]
      exact ⟨p0, p1, x3, hs1w1⟩
    have WC := Wz w1.drew (HH.out.below hBw1.drew)
    go_region_held3 (fun w' => w'.cell? ⟨w.heap.size, 0, none⟩ = some (.slice (some ⟨gi, 0, none⟩) xs.length c) ∧ w'.cell? ⟨w.heap.size, 1, none⟩ = some (.slice (some ⟨g, 0, none⟩) ps.length cap) ∧ w'.cell? ⟨w.heap.size + 1, 3, none⟩ = some (.slice (some ⟨sb, 0, none⟩) 2 2) ∧ w'.cell? ⟨sb, 1, none⟩ = some (.int .i64 z)) (first | exact KF.out _ hbc | go_keep) ((go_at_call 42; refine WC.mono ?_; rintro e w2 ⟨rfl, hbc⟩))
    rename_i hHeld
    clear hHeld
    have hbd : Below w1.heap.size w1 w2 := (Below.refl _ _).drew.trans hbc
    have hBw2 : Below w.heap.size w w2 := hBw1.trans (hbd.mono hBw1.size)
    have hXw2 := (hbd.block _ (lt_of_get hXw1)).trans hXw1
    have hPw2 := (hbd.block _ (lt_of_get hPw1)).trans hPw1
    clear p0 p1 x1 x3 hs1w1 KF WC hbc hbd hXw1 hPw1 hBw1
    have WT := fun W => two_any pp.tok.text hy hz W
    generalize T y = ty at *
    generalize T z = tz at *
    have p0 := cell_of_row w2 w.heap.size 0 _ _ _ hXw2
    have p1 := cell_of_row w2 w.heap.size 1 _ _ _ hXw2
    have x1 := cell_of_row w2 (w.heap.size + 1) 1 _ _ _ hPw2
    have x3 := cell_of_row w2 (w.heap.size + 1) 3 _ _ _ hPw2
    simp only [List.getElem?_toArray, List.getElem?_cons_zero, List.getElem?_cons_succ] at p0 p1 x1 x3
    have HB : Hid _ := hBw2
    clear hy hz hXw2 hPw2 hBw2 p0 p1 x3
    generalize twoI pp.tok.text ty tz = tr at *
    go_wp2_with fail
    refine (WT _).mono ?_
    rintro e w3 ⟨rfl, rfl⟩
    clear WT
    go_wp2_with fail
    go_ret
    exact ⟨by rw [HR2.out]; rfl, HB.out⟩
  | [y, z, u], _ =>
    obtain ⟨sb, rfl, hc0⟩ := HSC.out 0 (by simp)
    obtain ⟨sb', e', hc1⟩ := HSC.out 1 (by simp)
    obtain rfl : sb = sb' := by simpa using e'
    obtain ⟨sb'', e'', hc2⟩ := HSC.out 2 (by simp)
    obtain rfl : sb = sb'' := by simpa using e''
    have HR2 : Hid (r = if T y = 1 then T z else T u) := by show _ = _; rw [← HR.out]; rfl
    have Wy := IH.out y (by simp)
    have Wz := IH.out z (by simp)
    have Wu := IH.out u (by simp)
    have hy5 := HSM.out y (by simp)
    have hz5 := HSM.out z (by simp)
    have hu5 := HSM.out u (by simp)
    simp only [List.getD_cons_zero, List.getD_cons_succ] at hc0 hc1 hc2
    clear HSC HR IH HSM HNOT HN HOW HT e' e''
    simp only [List.length_cons, List.length_nil, Nat.zero_add, Nat.reduceAdd] at *
    go_enter Tryz.func42, Tryz.ntmps42
    go_wp2_with fail
    obtain ⟨hBwr, hXwr, hPwr⟩ := H0.out
    clear H0 k0 k1 k2 k3 k4
    generalize ((w.alloc (polObj gi xs.length c g ps.length cap)).alloc (.cells #[.int .u8 pp.tok.k, S pp.tok.text, .int .i64 pp.tok.pl, .slice (some ⟨sb, 0, none⟩) 3 3, .int .i64 pp.n] 169)) = wr at *
    have p0 := cell_of_row wr w.heap.size 0 _ _ _ hXwr
    have p1 := cell_of_row wr w.heap.size 1 _ _ _ hXwr
    have x1 := cell_of_row wr (w.heap.size + 1) 1 _ _ _ hPwr
    have x3 := cell_of_row wr (w.heap.size + 1) 3 _ _ _ hPwr
    simp only [List.getElem?_toArray, List.getElem?_cons_zero, List.getElem?_cons_succ] at p0 p1 x1 x3
    have hs0wr : wr.cell? ⟨sb, 0, none⟩ = some (.int .i64 y) := by rw [hBwr.cell (p := ⟨sb, 0, none⟩) (World.block_lt_of_cell? w _ hc0)]; exact hc0
    have KF : Hid (∀ w', Below wr.heap.size wr.drew w' → (w'.cell? ⟨w.heap.size, 0, none⟩ = some (.slice (some ⟨gi, 0, none⟩) xs.length c) ∧ w'.cell? ⟨w.heap.size, 1, none⟩ = some (.slice (some ⟨g, 0, none⟩) ps.length cap) ∧ w'.cell? ⟨w.heap.size + 1, 3, none⟩ = some (.slice (some ⟨sb, 0, none⟩) 3 3) ∧ w'.cell? ⟨sb, 0, none⟩ = some (.int .i64 y))) := fun w' h => by
      rw [h.cell (p := ⟨w.heap.size, 0, none⟩) (lt_of_get hXwr), h.cell (p := ⟨w.heap.size, 1, none⟩) (lt_of_get hXwr), h.cell (p := ⟨w.heap.size + 1, 3, none⟩) (lt_of_get hPwr), h.cell (p := ⟨sb, 0, none⟩) (World.block_lt_of_cell? wr _ hs0wr)]
      exact ⟨p0, p1, x3, hs0wr⟩
    have WC := Wy wr.drew (HH.out.below hBwr.drew)
    go_region_held3 (fun w' => w'.cell? ⟨w.heap.size, 0, none⟩ = some (.slice (some ⟨gi, 0, none⟩) xs.length c) ∧ w'.cell? ⟨w.heap.size, 1, none⟩ = some (.slice (some ⟨g, 0, none⟩) ps.length cap) ∧ w'.cell? ⟨w.heap.size + 1, 3, none⟩ = some (.slice (some ⟨sb, 0, none⟩) 3 3) ∧ w'.cell? ⟨sb, 0, none⟩ = some (.int .i64 y)) (first | exact KF.out _ hbc | go_keep) ((go_at_call 42; refine WC.mono ?_; rintro e w1 ⟨rfl, hbc⟩))
    rename_i hHeld
    clear hHeld
    have hbd : Below wr.heap.size wr w1 := (Below.refl _ _).drew.trans hbc
    have hBw1 : Below w.heap.size w w1 := hBwr.trans (hbd.mono hBwr.size)
    have hXw1 := (hbd.block _ (lt_of_get hXwr)).trans hXwr
    have hPw1 := (hbd.block _ (lt_of_get hPwr)).trans hPwr
    clear p0 p1 x1 x3 hs0wr KF WC hbc hbd hXwr hPwr hBwr
    by_cases hy1 : T y = 1
    · have HR3 : Hid (r = T z) := by show _ = _; rw [HR2.out, if_pos hy1]
      have hy2 : (T y == 1) = true := by simpa using hy1
      clear HR2 hy1
      generalize T y = ty at *
      go_wp2_with fail
      have p0 := cell_of_row w1 w.heap.size 0 _ _ _ hXw1
      have p1 := cell_of_row w1 w.heap.size 1 _ _ _ hXw1
      have x1 := cell_of_row w1 (w.heap.size + 1) 1 _ _ _ hPw1
      have x3 := cell_of_row w1 (w.heap.size + 1) 3 _ _ _ hPw1
      simp only [List.getElem?_toArray, List.getElem?_cons_zero, List.getElem?_cons_succ] at p0 p1 x1 x3
      have hs1w1 : w1.cell? ⟨sb, 1, none⟩ = some (.int .i64 z) := by rw [hBw1.cell (p := ⟨sb, 1, none⟩) (World.block_lt_of_cell? w _ hc1)]; exact hc1
      have KF : Hid (∀ w', Below w1.heap.size w1.drew w' → (w'.cell? ⟨w.heap.size, 0, none⟩ = some (.slice (some ⟨gi, 0, none⟩) xs.length c) ∧ w'.cell? ⟨w.heap.size, 1, none⟩ = some (.slice (some ⟨g, 0, none⟩) ps.length cap) ∧ w'.cell? ⟨w.heap.size + 1, 3, none⟩ = some (.slice (some ⟨sb, 0, none⟩) 3 3) ∧ w'.cell? ⟨sb, 1, none⟩ = some (.int .i64 z))) := fun w' h => by
        rw [h.cell (p := ⟨w.heap.size, 0, none⟩) (lt_of_get hXw1), h.cell (p := ⟨w.heap.size, 1, none⟩) (lt_of_get hXw1), h.cell (p := ⟨w.heap.size + 1, 3, none⟩) (lt_of_get hPw1), h.cell (p := ⟨sb, 1, none⟩) (World.block_lt_of_cell? w1 _ hs1w1)]
        exact ⟨p0, p1, x3, hs1w1⟩
      have WC := Wz w1.drew (HH.out.below hBw1.drew)
      go_region_held3 (fun w' => w'.cell? ⟨w.heap.size, 0, none⟩ = some (.slice (some ⟨gi, 0, none⟩) xs.length c) ∧ w'.cell? ⟨w.heap.size, 1, none⟩ = some (.slice (some ⟨g, 0, none⟩) ps.length cap) ∧ w'.cell? ⟨w.heap.size + 1, 3, none⟩ = some (.slice (some ⟨sb, 0, none⟩) 3 3) ∧ w'.cell? ⟨sb, 1, none⟩ = some (.int .i64 z)) (first | exact KF.out _ hbc | go_keep) ((go_at_call 42; refine WC.mono ?_; rintro e w2 ⟨rfl, hbc⟩))
      rename_i hHeld
      clear hHeld
      have hbd : Below w1.heap.size w1 w2 := (Below.refl _ _).drew.trans hbc
      have hBw2 : Below w.heap.size w w2 := hBw1.trans (hbd.mono hBw1.size)
      have hXw2 := (hbd.block _ (lt_of_get hXw1)).trans hXw1
      have hPw2 := (hbd.block _ (lt_of_get hPw1)).trans hPw1
      clear p0 p1 x1 x3 hs1w1 KF WC hbc hbd hXw1 hPw1 hBw1
      have HB : Hid _ := hBw2
      clear hXw2 hPw2 hBw2
      go_wp2_with fail
      go_ret
      exact ⟨by rw [HR3.out]; rfl, HB.out⟩
    · have HR3 : Hid (r = T u) := by show _ = _; rw [HR2.out, if_neg hy1]
      have hy2 : (T y == 1) = false := by simpa using hy1
      clear HR2 hy1
      generalize T y = ty at *
      go_wp2_with fail
      have p0 := cell_of_row w1 w.heap.size 0 _ _ _ hXw1
      have p1 := cell_of_row w1 w.heap.size 1 _ _ _ hXw1
      have x1 := cell_of_row w1 (w.heap.size + 1) 1 _ _ _ hPw1
      have x3 := cell_of_row w1 (w.heap.size + 1) 3 _ _ _ hPw1
      simp only [List.getElem?_toArray, List.getElem?_cons_zero, List.getElem?_cons_succ] at p0 p1 x1 x3
      have hs2w1 : w1.cell? ⟨sb, 2, none⟩ = some (.int .i64 u) := by rw [hBw1.cell (p := ⟨sb, 2, none⟩) (World.block_lt_of_cell? w _ hc2)]; exact hc2
      have KF : Hid (∀ w', Below w1.heap.size w1.drew w' → (w'.cell? ⟨w.heap.size, 0, none⟩ = some (.slice (some ⟨gi, 0, none⟩) xs.length c) ∧ w'.cell? ⟨w.heap.size, 1, none⟩ = some (.slice (some ⟨g, 0, none⟩) ps.length cap) ∧ w'.cell? ⟨w.heap.size + 1, 3, none⟩ = some (.slice (some ⟨sb, 0, none⟩) 3 3) ∧ w'.cell? ⟨sb, 2, none⟩ = some (.int .i64 u))) := fun w' h => by
        rw [h.cell (p := ⟨w.heap.size, 0, none⟩) (lt_of_get hXw1), h.cell (p := ⟨w.heap.size, 1, none⟩) (lt_of_get hXw1), h.cell (p := ⟨w.heap.size + 1, 3, none⟩) (lt_of_get hPw1), h.cell (p := ⟨sb, 2, none⟩) (World.block_lt_of_cell? w1 _ hs2w1)]
        exact ⟨p0, p1, x3, hs2w1⟩
      have WC := Wu w1.drew (HH.out.below hBw1.drew)
      go_region_held3 (fun w' => w'.cell? ⟨w.heap.size, 0, none⟩ = some (.slice (some ⟨gi, 0, none⟩) xs.length c) ∧ w'.cell? ⟨w.heap.size, 1, none⟩ = some (.slice (some ⟨g, 0, none⟩) ps.length cap) ∧ w'.cell? ⟨w.heap.size + 1, 3, none⟩ = some (.slice (some ⟨sb, 0, none⟩) 3 3) ∧ w'.cell? ⟨sb, 2, none⟩ = some (.int .i64 u)) (first | exact KF.out _ hbc | go_keep) ((go_at_call 42; refine WC.mono ?_; rintro e w2 ⟨rfl, hbc⟩))
      rename_i hHeld
      clear hHeld
      have hbd : Below w1.heap.size w1 w2 := (Below.refl _ _).drew.trans hbc
      have hBw2 : Below w.heap.size w w2 := hBw1.trans (hbd.mono hBw1.size)
      have hXw2 := (hbd.block _ (lt_of_get hXw1)).trans hXw1
      have hPw2 := (hbd.block _ (lt_of_get hPw1)).trans hPw1
      clear p0 p1 x1 x3 hs2w1 KF WC hbc hbd hXw1 hPw1 hBw1
      have HB : Hid _ := hBw2
      clear hXw2 hPw2 hBw2
      go_wp2_with fail
      go_ret
      exact ⟨by rw [HR3.out]; rfl, HB.out⟩
  | _ :: _ :: _ :: _ :: _, hl3 => simp at hl3
end Go.Proofs.YtfkdailfcmnjlaaGreatDoor

namespace Go.Proofs.YtfkdailfcmnjlaaGreatDoor
open Go Go.RowKit
set_option maxRecDepth 100000

theorem tells_any {B gi c g cap gf : Nat} {xs : List Itm} {ps : List PartS} {bv : Value} {its : List UInt8} {vals fl : List Int} (hV : ValsOK its vals) (hF : FieldsOK fl) (hL : PlainOK (ps.map toPt)) (hn : ∀ p ∈ ps, p.n = numOf p.tok) (f : Nat) : ∀ {lo k : Nat} {w : World}, TreeF f (ps.map toPt) lo k → Given xs its.length (ps.map toPt) lo (k + 1) → tyOf xs its (ps.map toPt) f k ≠ 0 → TelIn B gi c g cap gf xs ps bv vals fl w →
    Calls Tryz.prog 42 #[.agg #[.slice (some ⟨gi, 0, none⟩) xs.length c, .slice (some ⟨g, 0, none⟩) ps.length cap], .int .i64 k, bv, .slice (some ⟨gf, 0, none⟩) 9 9] w fun e w' => e = .returned (.int .i64 (tellF xs vals fl (ps.map toPt) f k)) ∧ Below w.heap.size w w' := by
  induction f with
  | zero => intro lo k w h; exact h.elim
  | succ f ih =>
    intro lo k w hT hg hty hP
    have hlt := hT.lt
    have hltp : k < ps.length := by simpa using hlt
    have hsub := forest_bounds _ hT.2.2
    have hsh := hT.2.1
    have hnot := fun a ea => not_truth (a := a) hV hF hL.num hT hg hty ea
    have hpm : ps.getD k noPart ∈ ps := by rw [List.getD_eq_getElem?_getD, List.getElem?_eq_getElem hltp]; exact List.getElem_mem hltp
    have hnn := hn _ hpm
    have hps : ps.length ≤ 5000 := by simpa using hL.few
    have hgk := hg k hT.le (by omega)
    have hty' : ∀ j ∈ ((ps.map toPt).getD k noPt).subs, tyOf xs its (ps.map toPt) f j ≠ 0 := fun j hj e => by
      rw [tyOf, if_pos] at hty
      · exact absurd rfl hty
      · rw [List.contains_iff_mem, ← e]; exact List.mem_map_of_mem hj
    rw [toPt_getD] at hsub hsh hnot hgk hty'
    rw [tellF, toPt_getD]
    refine tells_step (fun j => tellF xs vals fl (ps.map toPt) f j) k w hP hltp (fun j hj => ?_) (fun a ea => hnot a ea) ?_ (fun j hj => by obtain ⟨lo', h1, h2, h3⟩ := hsub j hj; omega) (fun hk => by rw [hnn]; unfold numOf; rw [if_pos hk]) (fun hk _ => by rw [hV.len]; exact (hgk hk).2) (fun j hj w1 h1 => ?_)
    · obtain ⟨lo', h1, h2, h3⟩ := hsub j hj
      exact (tell_has hV hF hL.num f h3 (fun q a b => hg q (by omega) (by omega)) (hty' j hj)).1
    · rcases hsh with ⟨_, h⟩ | ⟨_, h⟩ | ⟨_, h⟩ | ⟨_, _, _, h⟩
      · have : (ps.getD k noPart).subs = [] := h
        rw [this]; simp
      all_goals (have : (ps.getD k noPart).subs.length = _ := h; omega)
    · obtain ⟨lo', h1', h2, h3⟩ := hsub j hj
      exact ih h3 (fun q a b => hg q (by omega) (by omega)) (hty' j hj) h1
end Go.Proofs.YtfkdailfcmnjlaaGreatDoor

namespace Go.Proofs.YtfkdailfcmnjlaaGreatDoor
open Go Go.RowKit
set_option maxRecDepth 100000
attribute [local go_sem ↓] Go.wp_at_zero Go.wp_at_succ

/-- What Print answers. -/
def textOf (l : List UInt8) : List UInt8 := if (readOf l).1.1 = 0 then printL (readOf l).2.1 (readOf l).2.2 else []
/-- What the document's Print finds behind 'read'. -/
def RefAt (B : Nat) (r : List UInt8) (iv pv : Value) (w : World) : Prop :=
  (∃ a c a' b' c', iv = .slice a 0 c ∧ pv = .slice a' b' c' ∧ r = []) ∨
  ∃ gi c g cap ps xs, iv = .slice (some ⟨gi, 0, none⟩) xs.length c ∧ pv = .slice (some ⟨g, 0, none⟩) ps.length cap ∧ ItemsIn B iv xs w ∧ PartsIn B g cap ps w ∧ (∀ p ∈ ps, p.n = numOf p.tok) ∧ PrintOK (ps.map toPt) xs ∧ r = printL (ps.map toPt) xs
theorem ref_at (l : List UInt8) {w w' : World} {e : Ending} (h : ReadAns (readOf l).1.1 (readOf l).1.2 (readOf l).2.1 (readOf l).2.2 w e w') :
    Below w.heap.size w w' ∧ ∃ iv pv, e = .returned (.tuple #[.agg #[iv, pv], .int .i64 (readOf l).1.1, .int .i64 (readOf l).1.2]) ∧ RefAt w.heap.size (textOf l) iv pv w' := by
  obtain ⟨hb, iv, pv, rfl, ⟨a, b, c, rfl⟩, ⟨a', b', c', rfl⟩, h1, h2⟩ := h
  refine ⟨hb, _, _, rfl, ?_⟩
  by_cases h0 : (readOf l).1.1 = 0
  · have hk := print_known l h0
    have ht : textOf l = printL (readOf l).2.1 (readOf l).2.2 := by unfold textOf; rw [if_pos h0]
    obtain ⟨hI, ps, hrow, hsub, hfew, hnum, hps⟩ := h2 h0
    rw [ht]
    generalize (readOf l).2.2 = xs at *
    rw [← hps] at hk ⊢
    cases hxs : xs with
    | nil =>
      subst hxs
      refine .inl ⟨a, c, a', b', c', ?_, rfl, rfl⟩
      rcases hI.form with ⟨e, _⟩ | ⟨gi, c1, e⟩
      · simp only [Value.slice.injEq] at e; rw [e.2.1]
      · simp only [Value.slice.injEq] at e; rw [e.2.1]; rfl
    | cons x r =>
      refine .inr ?_
      rw [← hxs]
      have hx0 : xs.length ≠ 0 := by rw [hxs]; simp
      have htr := hk.trees
      rw [hxs] at htr
      have htop := htr.1.fit.lt
      rcases hI.form with ⟨_, e⟩ | ⟨gi, c1, e⟩
      · exact absurd e hx0
      · rcases hrow.2 with ⟨_, e2⟩ | ⟨g, cap, cur, e2, _⟩
        · rw [List.length_map] at htop; omega
        · exact ⟨gi, c1, g, cap, ps, xs, e, e2, hI, ⟨e2 ▸ hrow, hsub, hfew⟩, hnum, hk, rfl⟩
  · obtain ⟨e1, e2⟩ := h1 h0
    refine .inl ⟨none, 0, a', b', c', e1, rfl, ?_⟩
    unfold textOf; rw [if_neg h0]
theorem trees_at {L : List Pt} {xs : List Itm} : ∀ {fr : Nat}, TreesAt L xs fr → ∀ j (hj : j < xs.length), ∃ lo, Tree L lo xs[j].top := by
  induction xs with
  | nil => intro fr _ j hj; simp at hj
  | cons x r ih =>
    intro fr h j hj
    cases j with
    | zero => exact ⟨fr, h.1⟩
    | succ j => exact ih h.2.2 j (by simpa using hj)

abbrev itO (x : Itm) : Obj := .cells #[S x.name, .bool x.allow, .int .i64 x.top, .int .i64 x.pl, .int .i64 x.named, .int .i64 x.parts] 95
set_option maxHeartbeats 8000000 in
theorem print_ref (l : List UInt8) (w : World) (hm : l.length ≤ maxLen) : Calls Tryz.prog 15 #[S l] w fun e w' => e = .returned (.tuple #[S (textOf l), .int .i64 (readOf l).1.1, .int .i64 (readOf l).1.2]) ∧ Below w.heap.size w w' := by
  have HRD := (read_any l w hm).mono fun e w' h => ref_at l h
  clear hm
  generalize (readOf l).1.1 = n at *
  generalize (readOf l).1.2 = k at *
  generalize textOf l = r at *
  go_enter Tryz.func15, Tryz.ntmps15
  go_wp2_with fail
  refine HRD.mono ?_
  rintro e w1 ⟨hb1, iv, pv, rfl, hA⟩
  clear HRD
  rcases hA with ⟨a, c, a', b', c', rfl, rfl, hr⟩ | ⟨gi, c, g, cap, ps, xs, rfl, rfl, hI, hP, hnum, hk, hr⟩
  · have HR : Hid _ := hr
    have HB : Hid _ := hb1.alloc hb1.size (.cells #[.slice a 0 c, .slice a' b' c'] 90)
    clear hr hb1
    go_wp2_with fail
    go_loop [8, 9] (fun t i => t = S [] ∧ i = .int .i64 0) (fun _ _ => 0)
    case atStart => exact ⟨rfl, rfl⟩
    case round =>
      obtain ⟨rfl, rfl⟩ := hrel
      go_wp2_with fail
      refine bodyPost_ret (v := .tuple #[S [], .int .i64 n, .int .i64 k]) (by simp [results, Tryz.results15, go_sem]) rfl ?_
      exact ⟨by rw [HR.out], HB.out⟩
  · have HR : Hid _ := hr
    have hbA := hb1.alloc hb1.size (.cells #[.slice (some ⟨gi, 0, none⟩) xs.length c, .slice (some ⟨g, 0, none⟩) ps.length cap] 90)
    have hbx : (w1.alloc (.cells #[.slice (some ⟨gi, 0, none⟩) xs.length c, .slice (some ⟨g, 0, none⟩) ps.length cap] 90)).heap[w1.heap.size]? = some (.cells #[.slice (some ⟨gi, 0, none⟩) xs.length c, .slice (some ⟨g, 0, none⟩) ps.length cap] 90 (0, 0)) := heap_alloc_new w1 _
    have hf := hI.few
    have hpf := hP.few
    have hI1 := hI.below ((Below.refl _ _).alloc (Nat.le_refl _) (.cells #[.slice (some ⟨gi, 0, none⟩) xs.length c, .slice (some ⟨g, 0, none⟩) ps.length cap] 90))
    have hP1 := hP.below ((Below.refl _ _).alloc (Nat.le_refl _) (.cells #[.slice (some ⟨gi, 0, none⟩) xs.length c, .slice (some ⟨g, 0, none⟩) ps.length cap] 90))
    have H0 : Hid _ := And.intro hbA (And.intro hbx (And.intro hI1 hP1))
    have HNUM : Hid _ := hnum
    have HK : Hid _ := hk
    have HS : Hid _ := hb1.size
    clear hr hb1 hI hP hnum hk hbA hbx hI1 hP1
    go_wp2_with fail
    generalize w1.alloc (.cells #[.slice (some ⟨gi, 0, none⟩) xs.length c, .slice (some ⟨g, 0, none⟩) ps.length cap] 90) = wz at *
    go_loopw [8, 9] (fun tv jv wr => ∃ (j : Nat) (t : List UInt8), j ≤ xs.length ∧ jv = .int .i64 j ∧ tv = S t ∧ t.length ≤ 6000000 * j ∧ Hid (t = printL (ps.map toPt) (xs.take j)) ∧ Below w.heap.size w wr ∧ wr.heap[w1.heap.size]? = some (.cells #[.slice (some ⟨gi, 0, none⟩) xs.length c, .slice (some ⟨g, 0, none⟩) ps.length cap] 90 (0, 0)) ∧ Hid (ItemsIn w.heap.size (.slice (some ⟨gi, 0, none⟩) xs.length c) xs wr) ∧ Hid (PartsIn w.heap.size g cap ps wr)) (fun _ jv _ => xs.length - (intOf jv).toNat)
    case atStart => exact ⟨0, [], Nat.zero_le _, rfl, rfl, by simp, rfl, H0.out.1, H0.out.2.1, H0.out.2.2.1, H0.out.2.2.2⟩
    case round =>
      obtain ⟨j, t, hj, rfl, rfl, htl, HT, hbw, hbx, HI, HP⟩ := hrel
      have q0 := cell_of_row wr w1.heap.size 0 _ _ _ hbx
      have q1 := cell_of_row wr w1.heap.size 1 _ _ _ hbx
      have hlw := lt_of_get hbx
      simp only [List.getElem?_toArray, List.getElem?_cons_zero, List.getElem?_cons_succ] at q0 q1
      by_cases hlt : j < xs.length
      · obtain ⟨c0, c1, c2, c3, c4, c5⟩ := HI.out.cells j hlt
        have hm : xs[j] ∈ xs := List.getElem_mem hlt
        have HPT : Hid _ := print_take (L := ps.map toPt) hlt
        have HGJ : xs.getD j noItm = xs[j] := by rw [List.getD_eq_getElem?_getD, List.getElem?_eq_getElem hlt]; rfl
        rw [HGJ] at HPT
        have hxn := HK.out.names _ hm
        obtain ⟨lo, hTr⟩ := trees_at HK.out.trees j hlt
        have hTF := hTr.fit
        have hpl := TreeF.plain_len HK.out.parts.short hTF
        have hxl := hTF.lt
        rw [List.length_map] at hxl
        have hpl2 : (plainF (xs[j].top + 1) (ps.map toPt) xs[j].top).length ≤ 5500000 := Nat.le_trans hpl (Nat.le_trans (Nat.mul_le_mul_left _ (show xs[j].top + 1 - lo ≤ 5000 by omega)) (by decide))
        have b1 : (0 : Int) ≤ (j : Int) := by omega
        have b2 : (j : Int) < (xs.length : Int) := by omega
        have lg := World.block_lt_of_cell? wr _ c0
        simp only at lg
        have hnx : wr.heap.size ≠ w1.heap.size := by omega
        have hng : wr.heap.size ≠ gi := by omega
        have hbA : Below wr.heap.size wr (wr.alloc (itO xs[j])) := (Below.refl _ _).alloc (Nat.le_refl _) _
        have hBA : Hid (Below w.heap.size w (wr.alloc (itO xs[j]))) := hbw.trans (hbA.mono hbw.size)
        have hbX : Hid ((wr.alloc (itO xs[j])).heap[w1.heap.size]? = some (.cells #[.slice (some ⟨gi, 0, none⟩) xs.length c, .slice (some ⟨g, 0, none⟩) ps.length cap] 90 (0, 0))) := by show _ = _; rw [Below.heap_alloc _ _ _ hlw]; exact hbx
        have HIA : Hid _ := HI.out.below hbA
        have HPA : Hid _ := HP.out.below hbA
        have hxz : Hid ((wr.alloc (itO xs[j])).heap[wr.heap.size]? = some (itO xs[j])) := heap_alloc_new wr _
        have W1 := fun W (h : PartsIn w.heap.size g cap ps W) => rplain_any (a := some ⟨gi, 0, none⟩) (n := xs.length) (c := c) HK.out.parts HNUM.out (xs[j].top + 1) (w := W) hTF h
        have HEI : Hid (itemL (ps.map toPt) xs[j] = headL xs[j] ++ plainF (xs[j].top + 1) (ps.map toPt) xs[j].top ++ [59, 10]) := rfl
        have HHD : Hid (headL xs[j] = if xs[j].name = [] then (if xs[j].allow then wsAllow else wsDeny) else wsLet ++ xs[j].name ++ wsEq) := rfl
        clear hm HI HP hpl hTr hTF hbx hbA HGJ
        unfold itO at *
        generalize itemL (ps.map toPt) xs[j] = il at *
        generalize headL xs[j] = hd at *
        generalize plainF (xs[j].top + 1) (ps.map toPt) xs[j].top = pl at *
        generalize xs[j] = x at *
        obtain ⟨nm, al, tp, xp, xn, xq⟩ := x
        simp only [] at *
        by_cases hne : nm = []
        · cases al with
          | true =>
            have HHD2 : Hid (hd = wsAllow) := by show _ = _; rw [HHD.out, if_pos hne]; rfl
            have e1 : (nm == []) = true := by simpa using hne
            have e2 : (nm != []) = false := by simpa using hne
            clear hne HHD
            go_wp2_with fail
            refine (W1 _ HPA.out).mono ?_
            rintro e w2 ⟨rfl, hb2⟩
            clear W1 c0 c1 c2 c3 c4 c5 q0 q1
            have hB2 := hBA.out.trans (hb2.mono hBA.out.size)
            have hx2 := (hb2.block _ (lt_of_get hbX.out)).trans hbX.out
            have HI2 : Hid _ := HIA.out.below hb2
            have HP2 : Hid _ := HPA.out.below hb2
            clear hb2 HIA HPA hBA hbX hxz
            go_wp2_with fail
            go_roundw
            case rel =>
              refine ⟨j + 1, t ++ hd ++ pl ++ [59, 10], by omega, by simp, ?_, by rw [HHD2.out]; simp [wsLet, wsEq, wsAllow, wsDeny]; omega, ?_, hB2, hx2, HI2.out, HP2.out⟩
              · rw [HHD2.out]
                have e3 := rba_cat t wsAllow
                have e8 := rba_cat (t ++ (wsAllow)) pl
                have e9 := rba_cat (t ++ (wsAllow) ++ pl) [59, 10]
                exact congrArg Value.string (by rw [← e9, ← e8, ← e3]; rfl)
              · show _ = _
                rw [HPT.out, HEI.out, HT.out]; simp
            case measure => simp [intOf]; omega

          | false =>
            have HHD2 : Hid (hd = wsDeny) := by show _ = _; rw [HHD.out, if_pos hne]; rfl
            have e1 : (nm == []) = true := by simpa using hne
            have e2 : (nm != []) = false := by simpa using hne
            clear hne HHD
            go_wp2_with fail
            refine (W1 _ HPA.out).mono ?_
            rintro e w2 ⟨rfl, hb2⟩
            clear W1 c0 c1 c2 c3 c4 c5 q0 q1
            have hB2 := hBA.out.trans (hb2.mono hBA.out.size)
            have hx2 := (hb2.block _ (lt_of_get hbX.out)).trans hbX.out
            have HI2 : Hid _ := HIA.out.below hb2
            have HP2 : Hid _ := HPA.out.below hb2
            clear hb2 HIA HPA hBA hbX hxz
            go_wp2_with fail
            go_roundw
            case rel =>
              refine ⟨j + 1, t ++ hd ++ pl ++ [59, 10], by omega, by simp, ?_, by rw [HHD2.out]; simp [wsLet, wsEq, wsAllow, wsDeny]; omega, ?_, hB2, hx2, HI2.out, HP2.out⟩
              · rw [HHD2.out]
                have e3 := rba_cat t wsDeny
                have e8 := rba_cat (t ++ (wsDeny)) pl
                have e9 := rba_cat (t ++ (wsDeny) ++ pl) [59, 10]
                exact congrArg Value.string (by rw [← e9, ← e8, ← e3]; rfl)
              · show _ = _
                rw [HPT.out, HEI.out, HT.out]; simp
            case measure => simp [intOf]; omega

        · have _h := 0
          have HHD2 : Hid (hd = wsLet ++ nm ++ wsEq) := by show _ = _; rw [HHD.out, if_neg hne]
          have e1 : (nm == []) = false := by simpa using hne
          have e2 : (nm != []) = true := by simpa using hne
          clear hne HHD
          go_wp2_with fail
          refine (W1 _ HPA.out).mono ?_
          rintro e w2 ⟨rfl, hb2⟩
          clear W1 c0 c1 c2 c3 c4 c5 q0 q1
          have hB2 := hBA.out.trans (hb2.mono hBA.out.size)
          have hx2 := (hb2.block _ (lt_of_get hbX.out)).trans hbX.out
          have HI2 : Hid _ := HIA.out.below hb2
          have HP2 : Hid _ := HPA.out.below hb2
          clear hb2 HIA HPA hBA hbX hxz
          go_wp2_with fail
          go_roundw
          case rel =>
            refine ⟨j + 1, t ++ hd ++ pl ++ [59, 10], by omega, by simp, ?_, by rw [HHD2.out]; simp [wsLet, wsEq, wsAllow, wsDeny]; omega, ?_, hB2, hx2, HI2.out, HP2.out⟩
            · rw [HHD2.out]
              have e3 := rba_cat t wsLet
              have e4 := rba_cat (t ++ wsLet) nm
              have e5 := rba_cat (t ++ wsLet ++ nm) wsEq
              have e6 : t ++ (wsLet ++ nm ++ wsEq) = t ++ wsLet ++ nm ++ wsEq := by simp
              have e8 := rba_cat (t ++ (wsLet ++ nm ++ wsEq)) pl
              have e9 := rba_cat (t ++ (wsLet ++ nm ++ wsEq) ++ pl) [59, 10]
              exact congrArg Value.string (by rw [← e9, ← e8, e6, ← e5, ← e4, ← e3]; rfl)
            · show _ = _
              rw [HPT.out, HEI.out, HT.out]; simp
          case measure => simp [intOf]; omega

      · have hke : j = xs.length := by omega
        subst hke
        have HE : Hid (t = r) := by
          have := HT.out
          rw [List.take_length] at this
          show _ = _
          rw [this, HR.out]
        have HB : Hid _ := hbw
        clear hbw hbx htl HI HP
        go_wp2_with fail
        refine bodyPost_ret (v := .tuple #[S t, .int .i64 n, .int .i64 k]) (by simp [results, Tryz.results15, go_sem]) rfl ?_
        exact ⟨by rw [HE.out], HB.out⟩
end Go.Proofs.YtfkdailfcmnjlaaGreatDoor

namespace Go.Proofs.YtfkdailfcmnjlaaGreatDoor
open Go Go.RowKit
set_option maxRecDepth 100000
attribute [local go_sem ↓] Go.wp_at_zero Go.wp_at_succ

theorem verdict_zero (ts : List Tok) (R : AllR) (h : (verdictOf ts R).1 = 0) : (verdictOf ts R).2 = 0 := by
  unfold verdictOf at *
  repeat' split at h
  all_goals simp_all
theorem read_zero (l : List UInt8) (h : (readOf l).1.1 = 0) : (readOf l).1.2 = 0 := by
  unfold readOf at *
  by_cases h1 : 1000 < l.length
  · rw [if_pos h1] at h; simp at h
  · rw [if_neg h1] at h ⊢
    cases hx : (lex (l.length + 1) l 0).2 with
    | some p => rw [hx] at h; simp at h
    | none =>
      rw [hx] at h
      exact verdict_zero _ _ h
end Go.Proofs.YtfkdailfcmnjlaaGreatDoor
